import Derived.Test.YtppabcihbpbfpaaGreatDoorQK11
/-
  Package disk, pure: two disks that are the same but for where their files lie.
-/
namespace Go.Proofs.YtppabcihbpbfpaaGreatDoor
open Go Go.RowKit Go.ChangeShapes
namespace Dk
/-- the same names, the files elsewhere -/
def mp (φ : Nat → Nat) (l : Nm) : Nm := l.map fun p => (p.1, φ p.2)
def Ch.mp (φ : Nat → Nat) (c : Ch) : Ch := ⟨c.frm, c.tow, c.f.map φ⟩
section
variable (φ : Nat → Nat)
theorem get_mp (l : Nm) (s : List UInt8) : get (mp φ l) s = (get l s).map φ := by
  induction l with
  | nil => rfl
  | cons p r ih =>
    show get ((p.1, φ p.2) :: mp φ r) s = _
    rw [get_cons, get_cons, ih]
    split <;> rfl
theorem del_mp (l : Nm) (s : List UInt8) : del (mp φ l) s = mp φ (del l s) := by
  unfold del mp
  rw [List.filter_map]
  rfl
theorem ins_mp (x : List UInt8 × Nat) : ∀ l : Nm, ins (x.1, φ x.2) (mp φ l) = mp φ (ins x l)
  | [] => rfl
  | y :: r => by
    show ins (x.1, φ x.2) ((y.1, φ y.2) :: mp φ r) = _
    rw [ins, ins]
    split
    · rfl
    · rw [ins_mp x r]
      rfl
theorem put_mp (l : Nm) (s : List UInt8) (f : Nat) : put (mp φ l) s (φ f) = mp φ (put l s f) := by
  unfold put
  rw [del_mp]
  exact ins_mp φ (s, f) _
theorem app_mp (c : Ch) (l : Nm) (h : c.tow ≠ [] → ∃ f, c.f = some f) : (c.mp φ).app (mp φ l) = mp φ (c.app l) := by
  unfold Ch.app
  show (if c.tow = [] then _ else _) = _
  split
  · exact del_mp φ l c.frm
  · rename_i hne
    obtain ⟨f, ef⟩ := h hne
    show put (del (mp φ l) c.frm) c.tow ((c.f.map φ).getD 0) = _
    rw [ef, del_mp]
    exact put_mp φ _ _ f
theorem lvF_mp : ∀ (cs : List Ch) (l : Nm), (∀ c ∈ cs, c.tow ≠ [] → ∃ f, c.f = some f) → lvF (cs.map (Ch.mp φ)) (mp φ l) = mp φ (lvF cs l)
  | [], _, _ => rfl
  | c :: r, l, h => by
    show lvF (r.map (Ch.mp φ)) ((c.mp φ).app (mp φ l)) = mp φ (lvF r (c.app l))
    rw [app_mp φ c l (h c (List.mem_cons_self ..)), lvF_mp r _ fun d hd => h d (List.mem_cons_of_mem _ hd)]
end
/-- the same disk, its files elsewhere; armed or not -/
structure Iso (φ : Nat → Nat) (S T : DS) : Prop where
  quota : T.quota = S.quota
  taken : T.taken = S.taken
  nm : T.nm = mp φ S.nm
  la : T.la = mp φ S.la
  ch : T.ch = S.ch.map (Ch.mp φ)
  fo : ∀ f ∈ S.ids, T.fo (φ f) = S.fo f
  inj : ∀ f ∈ S.ids, ∀ g ∈ S.ids, φ f = φ g → f = g
  cf : ∀ c ∈ S.ch, ∀ f, c.f = some f → f ∈ S.ids
section
variable {φ : Nat → Nat} {S T : DS} {N : Nat}
theorem mp_data (h : Iso φ S T) (l : Nm) (hl : ∀ p ∈ l, p.2 ∈ S.ids) : (mp φ l).map (fun p => (p.1, T.fo p.2)) = l.map fun p => (p.1, S.fo p.2) := by
  unfold mp
  rw [List.map_map]
  exact List.map_congr_left fun p hp => by
    show (p.1, T.fo (φ p.2)) = _
    rw [h.fo _ (hl p hp)]
theorem Iso.files (h : Iso φ S T) (hW : WF S N) : files T = files S := by
  have h9 := congrArg (List.map fun x : List UInt8 × Fl => (x.1, x.2.data)) (mp_data h S.nm hW.ids)
  rw [List.map_map, List.map_map] at h9
  unfold Dk.files
  rw [h.nm]
  exact h9
theorem Iso.find (h : Iso φ S T) (hd : T.down = S.down) (s : List UInt8) : (findE T s).1 = (findE S s).1 ∧ ((findE S s).1 = 0 → fil T s = φ (fil S s)) := by
  have ha : askE T [s] = askE S [s] := by unfold askE; rw [hd]
  unfold fil findE
  rw [ha, h.nm, get_mp]
  split
  · cases get S.nm s with
    | none => exact ⟨rfl, fun e => by cases e⟩
    | some f => exact ⟨rfl, fun _ => rfl⟩
  · rename_i hne
    exact ⟨rfl, fun e => absurd e hne⟩
theorem Iso.upd (h : Iso φ S T) {f : Nat} (hf : f ∈ S.ids) (x : Fl) (t t2 : Int) (ht : t2 = t) : Iso φ { S with fo := Dk.upd S.fo f x, taken := t } { T with fo := Dk.upd T.fo (φ f) x, taken := t2 } := by
  refine ⟨h.quota, ht, h.nm, h.la, h.ch, fun k hk => ?_, h.inj, h.cf⟩
  show Dk.upd T.fo (φ f) x (φ k) = Dk.upd S.fo f x k
  by_cases e : k = f
  · rw [e, upd_same, upd_same]
  · rw [upd_ne _ _ e, upd_ne _ _ fun e2 => e (h.inj k hk f hf e2), h.fo k hk]
theorem Iso.cnt (h : Iso φ S T) : Iso φ S (cnt T).2 := by
  obtain ⟨e1, e2, e3, e4, e5, e6, e7⟩ := cnt_same T
  exact ⟨e1.trans h.quota, e2.trans h.taken, e3.trans h.nm, e4.trans h.la, e5.trans h.ch, by rw [e7]; exact h.fo, h.inj, h.cf⟩
theorem Iso.syn (h : Iso φ S T) (hd : T.down = S.down) (ha : S.armed = false) (hc : (Dk.cnt T).1 = 0) (hW : WF S N) (s : List UInt8) : Iso φ (syn S s) (syn T s) := by
  unfold Dk.syn
  rw [(h.find hd s).1]
  split
  · rename_i hf
    have hid := hW.ids _ (get_mem (find_some hf).1)
    rw [cnt_un ha, if_pos rfl, (h.find hd s).2 hf, h.cnt.fo _ hid]
    exact h.cnt.upd hid _ _ _ h.cnt.taken
  · exact h
theorem Iso.app (h : Iso φ S T) (hd : T.down = S.down) (ha : S.armed = false) (hc : (Dk.cnt T).1 = 0) (hW : WF S N) (s : List UInt8) (l : List Nat) : Iso φ (app S s l) (app T s l) := by
  unfold Dk.app
  rw [(h.find hd s).1, h.quota, h.taken]
  split
  · rename_i hf
    have hid := hW.ids _ (get_mem (find_some hf.1).1)
    rw [cnt_un ha, if_pos rfl, (h.find hd s).2 hf.1, h.cnt.fo _ hid]
    exact h.cnt.upd hid _ _ _ rfl
  · exact h
theorem Iso.tru (h : Iso φ S T) (hd : T.down = S.down) (ha : S.armed = false) (hc : (Dk.cnt T).1 = 0) (hW : WF S N) (s : List UInt8) (n : Int) : Iso φ (tru S s n) (tru T s n) := by
  unfold Dk.tru
  by_cases hf : (findE S s).1 = 0
  · have hid := hW.ids _ (get_mem (find_some hf).1)
    have hb : bad T (fil T s) n = bad S (fil S s) n := by
      unfold bad
      rw [(h.find hd s).2 hf, h.fo _ hid]
    rw [(h.find hd s).1, hb]
    split
    · rw [cnt_un ha, if_pos rfl, (h.find hd s).2 hf, h.fo _ hid, h.taken]
      exact h.cnt.upd hid _ _ _ rfl
    · exact h
  · rw [if_neg fun e => hf e.1, if_neg fun e => hf ((h.find hd s).1 ▸ e.1)]
    exact h
theorem Iso.names (h : Iso φ S T) (c : Ch) (hc : c.tow ≠ [] → ∃ f, c.f = some f) (hcf : ∀ f, c.f = some f → f ∈ S.ids) : Iso φ { S with nm := c.app S.nm, ch := S.ch ++ [c] } { T with nm := (c.mp φ).app T.nm, ch := T.ch ++ [c.mp φ] } := by
  refine ⟨h.quota, h.taken, ?_, h.la, ?_, h.fo, h.inj, fun d hd => ?_⟩
  · show (c.mp φ).app T.nm = mp φ (c.app S.nm)
    rw [h.nm, app_mp φ c _ hc]
  · show T.ch ++ [c.mp φ] = (S.ch ++ [c]).map (Ch.mp φ)
    rw [h.ch, List.map_append]
    rfl
  · rcases List.mem_append.1 hd with e | e
    · exact h.cf d e
    · rw [List.mem_singleton.1 e]
      exact hcf
theorem Iso.rem (h : Iso φ S T) (hd : T.down = S.down) (ha : S.armed = false) (hc : (Dk.cnt T).1 = 0) (s : List UInt8) : Iso φ (rem S s) (rem T s) := by
  unfold Dk.rem
  rw [(h.find hd s).1]
  split
  · rw [cnt_un ha, if_pos rfl]
    exact h.cnt.names ⟨s, [], none⟩ (fun e => absurd rfl e) (fun f e => by cases e)
  · exact h
theorem Iso.ren (h : Iso φ S T) (hd : T.down = S.down) (ha : S.armed = false) (hc : (Dk.cnt T).1 = 0) (hW : WF S N) (a b : List UInt8) : Iso φ (ren S a b) (ren T a b) := by
  have hk : askE T [a, b] = askE S [a, b] := by unfold askE; rw [hd]
  unfold Dk.ren
  rw [(h.find hd a).1, hk]
  split
  · rename_i hf
    rw [cnt_un ha, if_pos rfl, (h.find hd a).2 hf.2]
    exact h.cnt.names ⟨a, b, some (fil S a)⟩ (fun _ => ⟨_, rfl⟩) (fun f e => by
      rw [← Option.some.inj e]
      exact hW.ids _ (get_mem (find_some hf.2).1))
  · exact h
theorem Iso.sd (h : Iso φ S T) (hd : T.down = S.down) (ha : S.armed = false) (hc : (Dk.cnt T).1 = 0) (hW : WF S N) : Iso φ (sd S) (sd T) := by
  have hk : askE T [] = askE S [] := by unfold askE; rw [hd]
  unfold Dk.sd
  rw [hk]
  split
  · rw [cnt_un ha, if_pos rfl]
    have ht : Dk.tot T.nm T.fo = Dk.tot S.nm S.fo := by
      have h9 := congrArg (List.map fun x : List UInt8 × Fl => x.2.data.length) (mp_data h S.nm hW.ids)
      rw [List.map_map, List.map_map] at h9
      unfold Dk.tot
      rw [h.nm]
      exact congrArg List.sum h9
    exact ⟨h.cnt.quota, by show (Dk.tot T.nm T.fo : Int) = (Dk.tot S.nm S.fo : Int); rw [ht], h.cnt.nm, h.nm, rfl, h.cnt.fo, h.inj, fun c hc => by cases hc⟩
  · exact h
theorem Iso.crash (h : Iso φ S T) (hW : WF S N) (keep : Int) (cs : List (Int × Int)) : crash T keep cs = crash S keep cs := by
  have hk : lvK T keep = lvK S keep := by unfold lvK; rw [h.ch, List.length_map]
  have hl : lvN T keep = mp φ (lvN S keep) := by
    unfold lvN
    rw [hk, h.ch, h.la, ← List.map_take, lvF_mp]
    intro c hc hne
    obtain ⟨-, f, ef, -⟩ := (hW.ch c (List.mem_of_mem_take hc)).2 hne
    exact ⟨f, ef⟩
  unfold Dk.crash crL
  rw [hl]
  unfold mp
  refine List.ext_getElem (by rw [List.length_mapIdx, List.length_mapIdx, List.length_map]) fun i h1 h2 => ?_
  rw [List.getElem_mapIdx, List.getElem_mapIdx, List.getElem_map]
  show (_, lv (T.fo (φ _)) _) = _
  rw [h.fo _ (hW.left keep _ (List.getElem_mem _)).1]
theorem mp_congr {φ' : Nat → Nat} (l : Nm) (h : ∀ p ∈ l, φ' p.2 = φ p.2) : mp φ' l = mp φ l := List.map_congr_left fun p hp => by rw [h p hp]
theorem Iso.congr {φ' : Nat → Nat} (h : Iso φ S T) (hW : WF S N) (he : ∀ k ∈ S.ids, φ' k = φ k) : Iso φ' S T := by
  refine ⟨h.quota, h.taken, ?_, ?_, ?_, fun f hf => ?_, fun f hf g hg e => ?_, h.cf⟩
  · rw [h.nm, mp_congr S.nm fun p hp => he _ (hW.ids p hp)]
  · rw [h.la, mp_congr S.la fun p hp => he _ (hW.la p hp).1]
  · rw [h.ch]
    refine List.map_congr_left fun c hc => ?_
    unfold Ch.mp
    cases hcf : c.f with
    | none => rfl
    | some f =>
      show Ch.mk _ _ (some (φ f)) = Ch.mk _ _ (some (φ' f))
      rw [he f (h.cf c hc f hcf)]
  · rw [he f hf]
    exact h.fo f hf
  · rw [he f hf, he g hg] at e
    exact h.inj f hf g hg e
theorem Iso.made (h : Iso φ S T) (f : Nat) (hf' : ∀ k ∈ S.ids, φ k ≠ φ f) (hf : f ∉ S.ids) : Iso φ (Dk.mk S f) (Dk.mk T (φ f)) := by
  refine ⟨h.quota, h.taken, h.nm, h.la, h.ch, fun k hk => ?_, fun k hk g hg e => ?_, fun c hc k e => List.mem_append_left _ (h.cf c hc k e)⟩
  · show Dk.upd T.fo (φ f) ⟨[], 0⟩ (φ k) = Dk.upd S.fo f ⟨[], 0⟩ k
    rcases List.mem_append.1 hk with h9 | h9
    · rw [upd_ne _ _ (hf' k h9), upd_ne _ _ fun e => hf (by rw [← e]; exact h9), h.fo k h9]
    · rw [List.mem_singleton.1 h9, upd_same, upd_same]
  · rcases List.mem_append.1 hk with h9 | h9 <;> rcases List.mem_append.1 hg with h8 | h8
    · exact h.inj k h9 g h8 e
    · rw [List.mem_singleton.1 h8] at e
      exact absurd e (hf' k h9)
    · rw [List.mem_singleton.1 h9] at e
      exact absurd e.symm (hf' g h8)
    · rw [List.mem_singleton.1 h9, List.mem_singleton.1 h8]
theorem Iso.crt (h : Iso φ S T) (hd : T.down = S.down) (ha : S.armed = false) (hc : (Dk.cnt T).1 = 0) (s : List UInt8) (f : Nat) (hf' : ∀ k ∈ S.ids, φ k ≠ φ f) (hf : f ∉ S.ids) : Iso φ (crt S s f) (crt T s (φ f)) := by
  have hk : askE T [s] = askE S [s] := by unfold askE; rw [hd]
  have hg : (get T.nm s).isSome = (get S.nm s).isSome := by rw [h.nm, get_mp, Option.isSome_map]
  unfold Dk.crt
  rw [hk, hg]
  split
  · rw [cnt_un ha, if_pos rfl]
    have h9 := (h.cnt.made f hf' hf).names ⟨[], s, some f⟩ (fun _ => ⟨f, rfl⟩) (fun k e => by
      rw [← Option.some.inj e]
      show f ∈ S.ids ++ [f]
      simp)
    have e3 := (cnt_same T).2.2.1
    have e5 := (cnt_same T).2.2.2.2.1
    have h8 : Iso φ { Dk.mk S f with nm := Ch.app ⟨[], s, some f⟩ S.nm, ch := S.ch ++ [⟨[], s, some f⟩] } { Dk.mk (Dk.cnt T).2 (φ f) with nm := Ch.app ⟨[], s, some (φ f)⟩ (Dk.cnt T).2.nm, ch := (Dk.cnt T).2.ch ++ [⟨[], s, some (φ f)⟩] } := h9
    rw [e3, e5] at h8
    exact h8
  · exact h
/-- the error of a call, by that of the other disk, which is not armed -/
theorem Iso.doE (h : Iso φ S T) (hd : T.down = S.down) (ha : S.armed = false) (hW : WF S N) (o : Rop) : doE T o = if doE S o = 0 then (Dk.cnt T).1 else doE S o := by
  have a1 : ∀ ls, askE T ls = askE S ls := fun ls => by unfold askE; rw [hd]
  have a2 : ∀ s, synE T s = if synE S s = 0 then (Dk.cnt T).1 else synE S s := fun s => by
    unfold synE
    rw [(h.find hd s).1, cnt_un ha]
    by_cases e : (findE S s).1 = 0
    · rw [if_pos e, if_pos e, if_pos rfl]
    · rw [if_neg e, if_neg e, if_neg e]
  unfold Dk.doE
  split
  · unfold crtE
    rw [a1, h.nm, get_mp, Option.isSome_map, cnt_un ha]
    by_cases e : askE S [o.a.data.toList] = 0
    · rw [if_pos e, if_pos e]
      cases (get S.nm o.a.data.toList).isSome <;> simp
    · rw [if_neg e, if_neg e, if_neg e]
  split
  · unfold appE
    rw [(h.find hd _).1, cnt_un ha, h.quota, h.taken]
    by_cases e : (findE S o.a.data.toList).1 = 0
    · rw [if_pos e, if_pos e]
      split <;> simp
    · rw [if_neg e, if_neg e, if_neg e]
  split
  · exact a2 _
  split
  · unfold truE
    rw [(h.find hd _).1, cnt_un ha]
    by_cases e : (findE S o.a.data.toList).1 = 0
    · have hb : bad T (fil T o.a.data.toList) o.n = bad S (fil S o.a.data.toList) o.n := by
        unfold bad
        rw [(h.find hd _).2 e, h.fo _ (hW.ids _ (get_mem (find_some e).1))]
      rw [if_pos e, if_pos e, hb]
      split <;> simp
    · rw [if_neg e, if_neg e, if_neg e]
  split
  · unfold renE
    rw [a1]
    by_cases e : askE S [o.a.data.toList, o.b.data.toList] = 0
    · rw [if_pos e, if_pos e]
      exact a2 _
    · rw [if_neg e, if_neg e, if_neg e]
  split
  · exact a2 _
  · unfold sdE
    rw [a1, cnt_un ha]
    by_cases e : askE S [] = 0
    · rw [if_pos e, if_pos e, if_pos rfl]
    · rw [if_neg e, if_neg e, if_neg e]
/-- where the armed one is not stopped, both do the same -/
theorem Iso.do (h : Iso φ S T) (hd : T.down = S.down) (ha : S.armed = false) (hc : (Dk.cnt T).1 = 0) (hW : WF S N) (o : Rop) (f : Nat) (hf' : ∀ k ∈ S.ids, φ k ≠ φ f) (hf : f ∉ S.ids) : Iso φ (doS S o f) (doS T o (φ f)) := by
  unfold doS
  split
  · exact h.crt hd ha hc _ f hf' hf
  split
  · exact h.app hd ha hc hW _ _
  split
  · exact h.syn hd ha hc hW _
  split
  · exact h.tru hd ha hc hW _ _
  split
  · exact h.ren hd ha hc hW _ _
  split
  · exact h.rem hd ha hc _
  · exact h.sd hd ha hc hW
end
end Dk
end Go.Proofs.YtppabcihbpbfpaaGreatDoor

/-
  Package disk: what is loaded stands, and outlives a crash.
-/
namespace Go.Proofs.YtppabcihbpbfpaaGreatDoor
open Go Go.RowKit Go.ChangeShapes
namespace Dk
abbrev Lx := List ((List UInt8 × List Nat) × Nat)
/-- the names of what is loaded -/
def nmx (xs : Lx) : Nm := xs.map fun x => (x.1.1, x.2)
/-- files that Load takes -/
structure Gd (fs : List (List UInt8 × List Nat)) : Prop where
  nm : ∀ x ∈ fs, isNm x.1 = true
  ri : fs.Pairwise fun x y => bytesBefore x.1 y.1 = true
/-- behind the Creates -/
structure CG (q : Int) (A : Nm) (S : DS) : Prop where
  quota : S.quota = q
  taken : S.taken = 0
  nm : S.nm = A
  armed : S.armed = false
  down : S.down = false
  fo : ∀ p ∈ A, S.fo p.2 = ⟨[], 0⟩
theorem ask_yes {S : DS} {s : List UInt8} (hd : S.down = false) (hs : isNm s = true) : askE S [s] = 0 := by simp [askE, hd, hs]
theorem CG.step {q : Int} {A : Nm} {S : DS} (h : CG q A S) (s : List UInt8) (f : Nat) (hs : isNm s = true) (hA : ∀ p ∈ A, isNm p.1 = true ∧ bytesBefore p.1 s = true) : crtE S s = 0 ∧ CG q (A ++ [(s, f)]) (crt S s f) := by
  have ha := ask_yes h.down hs
  have hg : get S.nm s = none := by
    cases hg : get S.nm s with
    | none => rfl
    | some k =>
      have h9 := (hA _ (h.nm ▸ get_mem hg)).2
      rw [bb_irrefl] at h9
      cases h9
  have hdel : del S.nm [] = A := by
    rw [h.nm]
    unfold del
    rw [List.filter_eq_self]
    intro p hp
    have h9 := (isNm_len (hA p hp).1).1
    have : (p.1 == ([] : List UInt8)) = false := by simpa using h9
    rw [this]
    rfl
  have hap : Ch.app ⟨[], s, some f⟩ S.nm = A ++ [(s, f)] := by
    unfold Ch.app
    rw [if_neg (isNm_len hs).1]
    show put (del S.nm []) s f = _
    rw [hdel, put_last A s f fun p hp => (hA p hp).2]
  refine ⟨?_, ?_⟩
  · unfold crtE
    rw [if_pos ha, hg, cnt_un h.armed]
    rfl
  · unfold crt
    rw [if_pos ⟨ha, by rw [hg]; rfl⟩, cnt_un h.armed, if_pos rfl]
    refine ⟨h.quota, h.taken, hap, h.armed, h.down, fun p hp => ?_⟩
    show upd S.fo f ⟨[], 0⟩ p.2 = _
    by_cases e : p.2 = f
    · rw [e, upd_same]
    · rw [upd_ne _ _ e]
      rcases List.mem_append.1 hp with h9 | h9
      · exact h.fo p h9
      · rw [List.mem_singleton.1 h9] at e
        exact absurd rfl e
theorem CG.all {q : Int} : ∀ (xs : Lx) (A : Nm) (S : DS), CG q A S → (∀ p ∈ A, isNm p.1 = true ∧ ∀ x ∈ xs, bytesBefore p.1 x.1.1 = true) → (∀ x ∈ xs, isNm x.1.1 = true) → (xs.Pairwise fun x y => bytesBefore x.1.1 y.1.1 = true) → CG q (A ++ nmx xs) (xs.foldl (fun S x => crt S x.1.1 x.2) S)
  | [], A, S, h, _, _, _ => by
    have e : nmx [] = [] := rfl
    rw [e, List.append_nil]
    exact h
  | x :: r, A, S, h, hA, hn, hr => by
    have hp := List.pairwise_cons.1 hr
    have h1 := (h.step x.1.1 x.2 (hn x (List.mem_cons_self ..)) fun p hp => ⟨(hA p hp).1, (hA p hp).2 x (List.mem_cons_self ..)⟩).2
    have h2 := CG.all r _ _ h1 (fun p hp' => by
      rcases List.mem_append.1 hp' with h9 | h9
      · exact ⟨(hA p h9).1, fun y hy => (hA p h9).2 y (List.mem_cons_of_mem _ hy)⟩
      · rw [List.mem_singleton.1 h9]
        exact ⟨hn x (List.mem_cons_self ..), fun y hy => hp.1 y hy⟩) (fun y hy => hn y (List.mem_cons_of_mem _ hy)) hp.2
    rw [List.append_assoc] at h2
    exact h2
theorem zip_sub {α β : Type} {R : α → α → Prop} : ∀ (fs : List α) (l : List β), fs.Pairwise R → (fs.zip l).Pairwise fun x y => R x.1 y.1
  | [], l, _ => by simp
  | x :: r, [], _ => by simp
  | x :: r, y :: l, h => by
    have hp := List.pairwise_cons.1 h
    rw [List.zip_cons_cons]
    exact List.pairwise_cons.2 ⟨fun z hz => hp.1 _ (List.of_mem_zip hz).1, zip_sub r l hp.2⟩
theorem CG.new (q : Int) : CG q [] (new q) := ⟨rfl, rfl, rfl, rfl, rfl, fun p hp => by cases hp⟩
theorem CG.crs {q : Int} {fs : List (List UInt8 × List Nat)} (hg : Gd fs) (l : List Nat) (i : Nat) : CG q (nmx ((fs.zip l).take i)) (crs q ((fs.zip l).take i)) := by
  have h9 := CG.all (q := q) ((fs.zip l).take i) [] (Dk.new q) (CG.new q) (fun p hp => by cases hp) (fun x hx => hg.nm _ (List.of_mem_zip (List.mem_of_mem_take hx)).1) ((zip_sub fs l hg.ri).sublist (List.take_sublist _ _))
  rw [List.nil_append] at h9
  exact h9
/-- no Create is refused -/
theorem Gd.crtE {q : Int} {fs : List (List UInt8 × List Nat)} (hg : Gd fs) (l : List Nat) (h : l.length < fs.length) : crtE (Dk.crs q (fs.zip l)) fs[l.length].1 = 0 := by
  have hzl : (fs.zip l).length = l.length := by rw [List.length_zip]; omega
  have h9 := CG.crs (q := q) hg l l.length
  rw [List.take_of_length_le (by omega)] at h9
  refine (h9.step _ 0 (hg.nm _ (List.getElem_mem h)) fun p hp => ?_).1
  obtain ⟨x, hx, rfl⟩ := List.mem_map.1 hp
  refine ⟨hg.nm _ (List.of_mem_zip hx).1, ?_⟩
  obtain ⟨i, hi, rfl⟩ := List.getElem_of_mem hx
  rw [List.getElem_zip]
  exact (List.pairwise_iff_getElem.1 hg.ri) i l.length (by omega) h (by omega)
end Dk
end Go.Proofs.YtppabcihbpbfpaaGreatDoor

/-
  Package disk: what is loaded stands, and outlives a crash.
-/
namespace Go.Proofs.YtppabcihbpbfpaaGreatDoor
open Go Go.RowKit Go.ChangeShapes
namespace Dk
/-- how many bytes these files hold -/
def flen (fs : List (List UInt8 × List Nat)) : Nat := (fs.map fun x => x.2.length).sum
theorem flen_snoc (fs : List (List UInt8 × List Nat)) (x : List UInt8 × List Nat) : flen (fs ++ [x]) = flen fs + x.2.length := by
  unfold flen
  rw [List.map_append, List.sum_append]
  simp
theorem flen_take (fs : List (List UInt8 × List Nat)) (k : Nat) : flen (fs.take k) ≤ flen fs := by
  unfold flen
  rw [List.map_take]
  exact sum_take _ _
theorem nodup_at {l : List Nat} (h : l.Nodup) (i j : Nat) (hi : i < l.length) (hj : j < l.length) (e : l[i] = l[j]) : i = j := by
  have h9 := List.pairwise_iff_getElem.1 h
  rcases Nat.lt_trichotomy i j with h8 | h8 | h8
  · exact absurd e (h9 i j hi hj h8)
  · exact h8
  · exact absurd e.symm (h9 j i hj hi h8)
/-- behind the first Appends -/
structure AG (q : Int) (fs : List (List UInt8 × List Nat)) (l : List Nat) (k : Nat) (S : DS) : Prop where
  quota : S.quota = q
  taken : S.taken = (flen (fs.take k) : Int)
  nm : S.nm = nmx (fs.zip l)
  armed : S.armed = false
  down : S.down = false
  fo : ∀ i (h : i < fs.length) (h2 : i < l.length), S.fo l[i] = if i < k then ⟨fs[i].2, fs[i].2.length⟩ else ⟨[], 0⟩
section
variable {q : Int} {fs : List (List UInt8 × List Nat)} {l : List Nat}
theorem nmx_at (fs : List (List UInt8 × List Nat)) (l : List Nat) (i : Nat) (h : i < fs.length) (h2 : i < l.length) : (fs[i].1, l[i]) ∈ nmx (fs.zip l) := by
  unfold nmx
  refine List.mem_map.2 ⟨(fs[i], l[i]), ?_, rfl⟩
  have hz : i < (fs.zip l).length := by rw [List.length_zip]; omega
  have h9 := List.getElem_mem hz
  rw [List.getElem_zip] at h9
  exact h9
theorem nmx_rising (hg : Gd fs) (l : List Nat) : rising (nmx (fs.zip l)) := by
  unfold rising nmx
  exact List.pairwise_map.2 (zip_sub fs l hg.ri)
theorem AG.start (hg : Gd fs) (hl : l.length = fs.length) : AG q fs l 0 (Dk.crs q (fs.zip l)) := by
  have h9 := CG.crs (q := q) hg l fs.length
  rw [List.take_of_length_le (by rw [List.length_zip]; omega)] at h9
  exact ⟨h9.quota, by rw [h9.taken]; rfl, h9.nm, h9.armed, h9.down, fun i h h2 => by
    rw [if_neg (Nat.not_lt_zero _)]
    exact h9.fo _ (nmx_at fs l i h h2)⟩
theorem findG (hg : Gd fs) {S : DS} (hn : S.nm = nmx (fs.zip l)) (hd : S.down = false) (k : Nat) (h : k < fs.length) (h2 : k < l.length) : findE S fs[k].1 = (0, some l[k]) := by
  have hgt : get S.nm fs[k].1 = some l[k] := by
    rw [hn]
    exact mem_get (nmx_rising hg l) (nmx_at fs l k h h2)
  unfold findE
  rw [if_pos (ask_yes hd (hg.nm _ (List.getElem_mem h))), hgt]
theorem AG.step (hg : Gd fs) (hnd : l.Nodup) {k : Nat} {S : DS} (hA : AG q fs l k S) (h : k < fs.length) (h2 : k < l.length) (hq : (flen fs : Int) ≤ q) : appE S fs[k].1 fs[k].2 = 0 ∧ AG q fs l (k + 1) (syn (app S fs[k].1 fs[k].2) fs[k].1) := by
  have hf := findG hg hA.nm hA.down k h h2
  have hfo := hA.fo k h h2
  rw [if_neg (Nat.lt_irrefl _)] at hfo
  have htk : flen (fs.take (k + 1)) = flen (fs.take k) + fs[k].2.length := by rw [List.take_succ_eq_append_getElem h, flen_snoc]
  have hle := flen_take fs (k + 1)
  have hr : ¬ ((fs[k].2.length : Int) > S.quota - S.taken) := by
    rw [hA.quota, hA.taken]
    omega
  have hT : app S fs[k].1 fs[k].2 = { S with fo := upd S.fo l[k] ⟨fs[k].2, 0⟩, taken := S.taken + (fs[k].2.length : Int) } := by
    unfold app fil
    rw [hf, if_pos ⟨rfl, hr⟩, cnt_un hA.armed, if_pos rfl]
    show DS.mk _ _ _ _ _ _ _ _ _ (upd S.fo l[k] ⟨(S.fo l[k]).data ++ fs[k].2, (S.fo l[k]).syn⟩) = _
    rw [hfo]
    rfl
  refine ⟨?_, ?_⟩
  · unfold appE
    rw [hf, if_pos rfl, if_neg hr, cnt_un hA.armed]
  · rw [hT]
    obtain ⟨T, hTe⟩ : ∃ T : DS, T = { S with fo := upd S.fo l[k] ⟨fs[k].2, 0⟩, taken := S.taken + (fs[k].2.length : Int) } := ⟨_, rfl⟩
    rw [← hTe]
    have t1 : T.nm = nmx (fs.zip l) := by rw [hTe]; exact hA.nm
    have t2 : T.down = false := by rw [hTe]; exact hA.down
    have t3 : T.armed = false := by rw [hTe]; exact hA.armed
    have t4 : T.fo = upd S.fo l[k] ⟨fs[k].2, 0⟩ := by rw [hTe]
    have hf2 := findG hg t1 t2 k h h2
    have hU : syn T fs[k].1 = { T with fo := upd T.fo l[k] ⟨fs[k].2, fs[k].2.length⟩ } := by
      unfold syn fil
      rw [hf2, if_pos rfl, cnt_un t3, if_pos rfl]
      show DS.mk _ _ _ _ _ _ _ _ _ (upd T.fo l[k] ⟨(T.fo l[k]).data, (T.fo l[k]).data.length⟩) = _
      rw [t4, upd_same]
    rw [hU]
    refine ⟨by rw [hTe]; exact hA.quota, ?_, t1, t3, t2, fun i hi hi2 => ?_⟩
    · show T.taken = _
      rw [hTe, htk]
      show S.taken + _ = _
      rw [hA.taken]
      omega
    · show upd T.fo l[k] ⟨fs[k].2, fs[k].2.length⟩ l[i] = _
      by_cases hik : i = k
      · subst hik
        rw [upd_same, if_pos (Nat.lt_succ_self _)]
      · have hne : l[i] ≠ l[k] := fun e => hik (nodup_at hnd i k hi2 h2 e)
        rw [upd_ne _ _ hne, t4, upd_ne _ _ hne, hA.fo i hi hi2]
        by_cases h8 : i < k
        · rw [if_pos h8, if_pos (by omega)]
        · rw [if_neg h8, if_neg (by omega)]
theorem AG.all (hg : Gd fs) (hnd : l.Nodup) (hl : l.length = fs.length) (hq : (flen fs : Int) ≤ q) : ∀ k, k ≤ fs.length → AG q fs l k (aps (Dk.crs q (fs.zip l)) (fs.take k))
  | 0, _ => AG.start hg hl
  | k + 1, h => by
    have h9 := (AG.all hg hnd hl hq k (by omega)).step hg hnd (by omega) (by omega) hq
    rw [List.take_succ_eq_append_getElem (by omega), aps_snoc]
    exact h9.2
/-- the disk that Load leaves -/
structure LG (q : Int) (fs : List (List UInt8 × List Nat)) (S : DS) : Prop where
  quota : S.quota = q
  armed : S.armed = false
  down : S.down = false
  files : files S = fs
  crash : ∀ keep cs, crash S keep cs = fs
  ch : S.ch = []
  la : S.la = S.nm
  sy : ∀ p ∈ S.nm, (S.fo p.2).syn = (S.fo p.2).data.length
theorem AG.sd (hl : l.length = fs.length) {S : DS} (hA : AG q fs l fs.length S) : LG q fs (sd S) := by
  have ha : askE S [] = 0 := by simp [askE, hA.down]
  have hS : Dk.sd S = { S with la := S.nm, ch := [], taken := (tot S.nm S.fo : Int) } := by
    unfold Dk.sd
    rw [if_pos ha, cnt_un hA.armed, if_pos rfl]
  have hnl : (nmx (fs.zip l)).length = fs.length := by
    unfold nmx
    rw [List.length_map, List.length_zip]
    omega
  have hat : ∀ i (h : i < fs.length), (nmx (fs.zip l))[i]'(by omega) = (fs[i].1, l[i]'(by omega)) := fun i h => by
    unfold nmx
    rw [List.getElem_map, List.getElem_zip]
  have hfo : ∀ i (h : i < fs.length), S.fo (l[i]'(by omega)) = ⟨fs[i].2, fs[i].2.length⟩ := fun i h => by
    rw [hA.fo i h (by omega), if_pos h]
  rw [hS]
  refine ⟨hA.quota, hA.armed, hA.down, ?_, fun keep cs => ?_, rfl, rfl, fun p hp => ?_⟩
  · show S.nm.map (fun p => (p.1, (S.fo p.2).data)) = fs
    rw [hA.nm]
    refine List.ext_getElem (by rw [List.length_map]; exact hnl) fun i h1 h2 => ?_
    rw [List.getElem_map, hat i h2]
    show (fs[i].1, (S.fo (l[i]'(by omega))).data) = _
    rw [hfo i h2]
  · show (lvF (([] : List Ch).take _) S.nm).mapIdx (fun k p => (p.1, lv (S.fo p.2) (cs.getD k (0, 0)))) = fs
    rw [List.take_nil]
    show S.nm.mapIdx (fun k p => (p.1, lv (S.fo p.2) (cs.getD k (0, 0)))) = fs
    rw [hA.nm]
    refine List.ext_getElem (by rw [List.length_mapIdx]; exact hnl) fun i h1 h2 => ?_
    rw [List.getElem_mapIdx, hat i h2]
    show (fs[i].1, lv (S.fo (l[i]'(by omega))) _) = _
    rw [hfo i h2, lv_syn]
  · have hp2 : p ∈ S.nm := hp
    rw [hA.nm] at hp2
    obtain ⟨i, hi, e⟩ := List.getElem_of_mem hp2
    have hi2 : i < fs.length := by omega
    rw [hat i hi2] at e
    show (S.fo p.2).syn = (S.fo p.2).data.length
    rw [← e]
    show (S.fo (l[i]'(by omega))).syn = (S.fo (l[i]'(by omega))).data.length
    rw [hfo i hi2]
end
end Dk
end Go.Proofs.YtppabcihbpbfpaaGreatDoor

/-
  DiskLeaves, DiskLasts: Load of files that may be loaded; most, rising.
-/
namespace Go.Proofs.YtppabcihbpbfpaaGreatDoor
open Go Go.RowKit Go.ChangeShapes
open Wb

theorem dkload_good (q : Int) (ok1 : Nat → Prop) (v : Value) (fs : List (List UInt8 × List Nat)) (w : World) (hfs : Fls ok1 w v fs) (hn : fs.length ≤ 400000000) (hg : Dk.Gd fs) (hq : 0 ≤ q ∧ q ≤ 4194304) (hl : (Dk.flen fs : Int) ≤ q) :
    Calls Tryz.prog 8 #[.int .i64 q, v] w fun e w' => ∃ g S M, e = .returned (.tuple #[.pointer (some ⟨g, 0, none⟩), .int .i64 0]) ∧ DM w.heap.size w' g S M ∧ Dk.WF S fs.length ∧ Dk.LG q fs S ∧ Below w.heap.size w w' := by
  refine (dkload_any q ok1 v fs w hfs hn fun x hx => by
    have := (Dk.isNm_len (hg.nm x hx)).2
    unfold maxLen
    omega).mono fun e w' ⟨bel, h⟩ => ?_
  rcases h with ⟨h1, -⟩ | ⟨-, l, k, hE, hW, h⟩
  · exact absurd hq h1
  · have hnd : l.length = fs.length → l.Nodup := fun hl2 => by
      have h9 := Dk.CG.crs (q := q) hg l fs.length
      rw [List.take_of_length_le (by rw [List.length_zip]; omega)] at h9
      have h8 := hW.inj
      rw [h9.nm] at h8
      have e : (Dk.nmx (fs.zip l)).map (·.2) = l := by
        unfold Dk.nmx
        rw [List.map_map]
        refine List.ext_getElem (by rw [List.length_map, List.length_zip]; omega) fun i h1 h2 => ?_
        rw [List.getElem_map]
        simp
      rw [e] at h8
      exact h8
    rcases h with ⟨h1, -, h2, -⟩ | ⟨h1, h2, h3, -⟩ | ⟨h1, h2, g, M, h3, h4, h5⟩
    · exact absurd (hg.crtE l h1) h2
    · exact absurd ((Dk.AG.all hg (hnd h1) h1 hl k (by omega)).step hg (hnd h1) h2 (by omega) hl).1 h3
    · have h9 := Dk.AG.all (q := q) hg (hnd h1) h1 hl fs.length (Nat.le_refl _)
      rw [List.take_of_length_le (Nat.le_refl _)] at h9
      exact ⟨g, _, M, h3, h4, h5, h9.sd h1, bel⟩
/-- the two orders of strings are one -/
theorem less_before : ∀ a b : List UInt8, bytesBefore a b = true → Op.bytesLess a b = true
  | [], [], h => by cases h
  | [], _ :: _, _ => rfl
  | _ :: _, [], h => by cases h
  | x :: a, y :: b, h => by
    rw [bytesBefore, Bool.or_eq_true, Bool.and_eq_true] at h
    rw [Op.bytesLess, Bool.or_eq_true, Bool.and_eq_true]
    rcases h with h | ⟨h1, h2⟩
    · exact .inl h
    · exact .inr ⟨h1, less_before a b h2⟩
/-- a cut's two cells -/
def enK (c : Int × Int) : List Value := [.int .i64 c.1, .int .i64 c.2]
theorem infoK : (Tryz.prog.info? 71).map (fun i => (i.zero, i.size, i.bytes)) = some (some (.agg #[.int .i64 0, .int .i64 0]), 2, 16) := by kernel_rfl
theorem flatK_at : ∀ (cs : List (Int × Int)) (j : Nat) (h : j < cs.length), (cs.flatMap enK)[j * 2]? = some (.int .i64 cs[j].1) ∧ (cs.flatMap enK)[j * 2 + 1]? = some (.int .i64 cs[j].2)
  | [], j, h => by simp at h
  | x :: r, 0, _ => by simp [enK]
  | x :: r, j + 1, h => by
    have hj : j < r.length := by simpa using h
    obtain ⟨h1, h2⟩ := flatK_at r j hj
    rw [List.flatMap_cons, show (j + 1) * 2 = (enK x).length + j * 2 by simp [enK]; omega, show (enK x).length + j * 2 + 1 = (enK x).length + (j * 2 + 1) by omega, List.getElem?_append_right (by omega), List.getElem?_append_right (by omega), Nat.add_sub_cancel_left, Nat.add_sub_cancel_left]
    simp only [List.getElem_cons_succ]
    exact ⟨h1, h2⟩
theorem cts_own {B : Nat} {w : World} {v : Value} {cs : List (Int × Int)} (h : w.ownsRow B 71 2 v cs.length (cs.flatMap enK)) : CtS w v cs := by
  obtain ⟨a, c, e, h1, h2⟩ := Mg.row_shape h
  refine ⟨a, c, e, h1, h2, fun hne => ?_⟩
  rcases h.2 with ⟨e3, h0⟩ | ⟨b, c', cur, e3, hB, -⟩
  · exact absurd (List.eq_nil_of_length_eq_zero h0) hne
  · rw [e] at e3
    simp only [Value.slice.injEq] at e3
    refine ⟨b, 0, e3.1, fun j hj => ?_⟩
    obtain ⟨f0, f1⟩ := flatK_at cs j hj
    have hr := h
    rw [e, e3.1] at hr
    have c0 := World.ownsRow.cellAt hr (j * 2) (by omega)
    have c1 := World.ownsRow.cellAt hr (j * 2 + 1) (by omega)
    rw [f0] at c0
    rw [f1] at c1
    simp only [Nat.zero_add]
    exact ⟨c0, c1⟩
/-- append of one cut, its run -/
theorem run_app1K (w : World) (ty : TypeId) (B : Nat) (v : Value) (cs : List (Int × Int)) (h : w.ownsRow B 71 2 v cs.length (cs.flatMap enK)) (g c : Nat) (x : Int × Int) (hc : LB w g 71 (enK x)) (hmax : cs.length ≤ 1000000000) (hB : B ≤ w.heap.size) : ∃ v' w', (Builtin.append_ #[26, 26] ty #[v, .slice (some ⟨g, 0, none⟩) 1 c]).run Tryz.prog w = .ok v' w' ∧ w'.ownsRow B 71 2 v' (cs ++ [x]).length ((cs ++ [x]).flatMap enK) ∧ Below B w w' := by
  obtain ⟨i0, hi, hq⟩ := Option.map_eq_some_iff.1 infoK
  simp only [Prod.mk.injEq] at hq
  obtain ⟨v', w', hr, h2, h3, -, h5⟩ := run_append_own_at (P := Tryz.prog) w B 26 ty 71 i0 _ 2 16 Tryz.underlying26 hi hq.1 hq.2.1 hq.2.2 rfl (by decide) v cs.length _ h ⟨g, 0, none⟩ 1 c (enK x) rfl (fun j u hj => by
    rw [Addr.add_lit, Nat.zero_add]
    exact hc.cell j u hj) (fun u hu => by
      simp [enK] at hu
      rcases hu with rfl | rfl <;> rfl) (by unfold maxLen; omega) (by omega) hB
  refine ⟨v', w', hr, ?_, (Below.refl B w).grown h3 hB fun k e => (World.ownsRow.lt h k e).1⟩
  rw [List.length_append, List.flatMap_append]
  simpa using h2
end Go.Proofs.YtppabcihbpbfpaaGreatDoor

/-
  DiskArmed: two disks at once; what an armed one does.
-/
namespace Go.Proofs.YtppabcihbpbfpaaGreatDoor
open Go Go.RowKit Go.ChangeShapes
open Wb

/-- two disks in memory, apart -/
structure TW (B : Nat) (w : World) (g : Nat) (S : Dk.DS) (M : Mm) (h : Nat) (T : Dk.DS) (M' : Mm) : Prop where
  l : DM B w g S M
  r : DM B w h T M'
  ap : ∀ q, Ft g S M q → ¬ Ft h T M' q
theorem row_low {w : World} {B B2 : Nat} {t : TypeId} {c : Nat} {v : Value} {n : Nat} {cells : List Value} (h : w.ownsRow B t c v n cells) (hB : B2 ≤ B) : w.ownsRow B2 t c v n cells := by
  refine ⟨h.1, ?_⟩
  rcases h.2 with e | ⟨b, c', cur, e3, hb, rest⟩
  · exact .inl e
  · exact .inr ⟨b, c', cur, e3, Nat.le_trans hB hb, rest⟩
section
variable {B g h : Nat} {w w' : World} {S S2 T T2 : Dk.DS} {M M' : Mm}
theorem TW.kept (t : TW B w g S M h T M') (hb : Below w.heap.size w w') : TW B w' g S M h T M' := ⟨t.l.kept hb, t.r.kept hb, t.ap⟩
theorem TW.swap (t : TW B w g S M h T M') : TW B w h T M' g S M := ⟨t.r, t.l, fun q h1 h2 => t.ap q h2 h1⟩
/-- a call on the first leaves the second as it is -/
theorem TW.left (t : TW B w g S M h T M') (hp : DPost B g S M w S2 w') : ∃ M2, TW B w' g S2 M2 h T M' := by
  obtain ⟨M2, h1, h2, h3⟩ := hp
  refine ⟨M2, h1, t.r.blk fun q hq => h2.block q (t.r.ft hq).2 fun e => t.ap q e hq, fun q hq hq2 => ?_⟩
  rcases h3 q hq with e | e
  · exact t.ap q e hq2
  · have := (t.r.ft hq2).2
    omega
theorem TW.right (t : TW B w g S M h T M') (hp : DPost B h T M' w T2 w') : ∃ M2, TW B w' g S M h T2 M2 := by
  obtain ⟨M2, h9⟩ := t.swap.left hp
  exact ⟨M2, h9.swap⟩
/-- a disk that is made behind the first lies apart from it -/
theorem TW.new {w2 : World} (h1 : DM B w g S M) (h2 : DM w.heap.size w2 h T M') (hb : Below w.heap.size w w2) (hB2 : DM B w2 h T M') : TW B w2 g S M h T M' := ⟨h1.kept hb, hB2, fun q e1 e2 => by
  have a1 := (h1.ft e1).2
  have a2 := (h2.ft e2).1
  omega⟩
/-- a disk's blocks lie from B on: also from a smaller B on -/
theorem DM.low {B2 : Nat} (h1 : DM B w g S M) (hB : B2 ≤ B) : DM B2 w g S M := ⟨h1.box, h1.nm, h1.la, row_low h1.ch hB, h1.fb, fun f hf => (h1.fd f hf).mono hB, h1.ap, h1.ne, Nat.le_trans hB h1.gB, fun b e => Nat.le_trans hB (h1.mB b e), fun f hf => Nat.le_trans hB (h1.fB f hf)⟩
end
namespace Dk
section
variable {φ : Nat → Nat} {S T : DS} {N : Nat}
theorem cnt_left (hc : (Dk.cnt T).1 = 0) : (Dk.cnt T).2.down = T.down ∧ (Dk.cnt T).2.armed = T.armed ∧ (Dk.cnt T).2.left = if T.armed = true then T.left - 1 else T.left := by
  unfold Dk.cnt at hc ⊢
  split
  · rename_i ha
    exact ⟨rfl, rfl, by rw [ha]; simp⟩
  · rename_i ha
    split
    · rename_i hl
      rw [if_neg ha, if_pos hl] at hc
      cases hc
    · exact ⟨rfl, rfl, by rw [if_pos (by simpa using ha)]⟩
/-- what the one refuses changes nothing on the other; where the other is stopped it goes down and nothing else -/
theorem Iso.stop (h : Iso φ S T) (hd : T.down = S.down) (ha : S.armed = false) (hW : WF S N) (o : Rop) (f' : Nat) : (Dk.doE S o ≠ 0 → doS T o f' = T) ∧ (Dk.doE S o = 0 → (Dk.cnt T).1 ≠ 0 → doS T o f' = (Dk.cnt T).2) := by
  have a1 : ∀ ls, askE T ls = askE S ls := fun ls => by unfold askE; rw [hd]
  have a2 : ∀ s, (findE T s).1 = (findE S s).1 := fun s => (h.find hd s).1
  unfold Dk.doE doS
  split
  · have hg : (get T.nm o.a.data.toList).isSome = (get S.nm o.a.data.toList).isSome := by rw [h.nm, get_mp, Option.isSome_map]
    unfold crtE Dk.crt
    rw [a1, hg, cnt_un ha]
    by_cases e : askE S [o.a.data.toList] = 0
    · cases hgs : (get S.nm o.a.data.toList).isSome with
      | true => exact ⟨fun _ => by simp [e], fun e2 => by simp [e] at e2⟩
      | false => exact ⟨fun e2 => by simp [e] at e2, fun _ hc => by simp [e, hc]⟩
    · exact ⟨fun _ => by simp [e], fun e2 => by simp [e] at e2⟩
  split
  · unfold appE Dk.app
    rw [a2, cnt_un ha, h.quota, h.taken]
    by_cases e : (findE S o.a.data.toList).1 = 0
    · by_cases e3 : (o.data.length : Int) > S.quota - S.taken
      · exact ⟨fun _ => by simp [e3], fun e2 => by rw [if_pos e, if_pos e3] at e2; cases e2⟩
      · exact ⟨fun e2 => by rw [if_pos e, if_neg e3] at e2; exact absurd rfl e2, fun _ hc => by rw [if_pos ⟨e, e3⟩, if_neg hc]⟩
    · exact ⟨fun _ => by rw [if_neg fun x => e x.1], fun e2 => by rw [if_neg e] at e2; exact absurd e2 e⟩
  split
  · unfold synE Dk.syn
    rw [a2, cnt_un ha]
    by_cases e : (findE S o.a.data.toList).1 = 0
    · exact ⟨fun e2 => by rw [if_pos e] at e2; exact absurd rfl e2, fun _ hc => by rw [if_pos e, if_neg hc]⟩
    · exact ⟨fun _ => by rw [if_neg e], fun e2 => by rw [if_neg e] at e2; exact absurd e2 e⟩
  split
  · unfold truE Dk.tru
    rw [a2, cnt_un ha]
    by_cases e : (findE S o.a.data.toList).1 = 0
    · have hb : bad T (fil T o.a.data.toList) o.n = bad S (fil S o.a.data.toList) o.n := by
        unfold bad
        rw [(h.find hd _).2 e, h.fo _ (hW.ids _ (get_mem (find_some e).1))]
      rw [hb]
      cases hbs : bad S (fil S o.a.data.toList) o.n with
      | true => exact ⟨fun _ => by simp, fun e2 => by simp [e] at e2⟩
      | false => exact ⟨fun e2 => by simp [e] at e2, fun _ hc => by rw [if_pos ⟨e, rfl⟩, if_neg hc]⟩
    · exact ⟨fun _ => by rw [if_neg fun x => e x.1], fun e2 => by rw [if_neg e] at e2; exact absurd e2 e⟩
  split
  · unfold renE synE Dk.ren
    rw [a1, a2, cnt_un ha]
    by_cases e4 : askE S [o.a.data.toList, o.b.data.toList] = 0
    · by_cases e : (findE S o.a.data.toList).1 = 0
      · exact ⟨fun e2 => by rw [if_pos e4, if_pos e] at e2; exact absurd rfl e2, fun _ hc => by rw [if_pos ⟨e4, e⟩, if_neg hc]⟩
      · exact ⟨fun _ => by rw [if_neg fun x => e x.2], fun e2 => by rw [if_pos e4, if_neg e] at e2; exact absurd e2 e⟩
    · exact ⟨fun _ => by rw [if_neg fun x => e4 x.1], fun e2 => by rw [if_neg e4] at e2; exact absurd e2 e4⟩
  split
  · unfold synE Dk.rem
    rw [a2, cnt_un ha]
    by_cases e : (findE S o.a.data.toList).1 = 0
    · exact ⟨fun e2 => by rw [if_pos e] at e2; exact absurd rfl e2, fun _ hc => by rw [if_pos e, if_neg hc]⟩
    · exact ⟨fun _ => by rw [if_neg e], fun e2 => by rw [if_neg e] at e2; exact absurd e2 e⟩
  · unfold sdE Dk.sd
    rw [a1, cnt_un ha]
    by_cases e : askE S [] = 0
    · exact ⟨fun e2 => by rw [if_pos e] at e2; exact absurd rfl e2, fun _ hc => by rw [if_pos e, if_neg hc]⟩
    · exact ⟨fun _ => by rw [if_neg e], fun e2 => by rw [if_neg e] at e2; exact absurd e2 e⟩
end
end Dk
end Go.Proofs.YtppabcihbpbfpaaGreatDoor

/-
  DiskArmed, pure: what a disk that is down answers; the ids of two disks.
-/
namespace Go.Proofs.YtppabcihbpbfpaaGreatDoor
open Go Go.RowKit Go.ChangeShapes
namespace Dk
section
variable {φ : Nat → Nat} {S T : DS} {N : Nat}
theorem down_ask (h : T.down = true) (ls : List (List UInt8)) : askE T ls = 60 := by
  unfold askE
  rw [if_pos h]
theorem down_find (h : T.down = true) (s : List UInt8) : (findE T s).1 = 60 := by
  unfold findE
  rw [down_ask h, if_neg (by omega)]
theorem down_free (h : T.down = true) : free T = 0 := by
  unfold free
  rw [if_pos h]
theorem down_list (h : T.down = true) : lst T = [] := by
  unfold lst
  rw [if_pos h]
theorem down_sd (h : T.down = true) : sdE T = 60 ∧ sd T = T := by
  unfold sdE sd
  rw [down_ask h]
  exact ⟨by rw [if_neg (by omega)], by rw [if_neg (by omega)]⟩
theorem down_arm (h : T.down = true) (n : Int) : arm T n = T := by
  unfold arm
  rw [if_pos h]
theorem cnt_stop (ha : T.armed = true) (hl : T.left = 0) : (cnt T).1 = 60 ∧ (cnt T).2.down = true := by
  unfold cnt
  rw [if_neg (by rw [ha]; simp), if_pos hl]
  exact ⟨rfl, rfl⟩
theorem cnt_go (h : T.armed = true → T.left ≠ 0) : (cnt T).1 = 0 := by
  unfold cnt
  split
  · rfl
  · rename_i ha
    rw [if_neg (h (by simpa using ha))]
/-- which files there are behind an operation -/
theorem do_ids (hc : (cnt S).1 = 0) (o : Rop) (f : Nat) : (doS S o f).ids = if o.k = 1 ∧ askE S [o.a.data.toList] = 0 ∧ (get S.nm o.a.data.toList).isSome = false then S.ids ++ [f] else S.ids := by
  have e := (cnt_same S).2.2.2.2.2.1
  unfold doS
  split
  · rename_i hk
    unfold crt
    by_cases h1 : askE S [o.a.data.toList] = 0 ∧ (get S.nm o.a.data.toList).isSome = false
    · rw [if_pos h1, if_pos hc, if_pos ⟨hk, h1⟩]
      show (cnt S).2.ids ++ [f] = _
      rw [e]
    · rw [if_neg h1, if_neg fun x => h1 x.2]
  · rename_i hk
    have hn : ¬ (o.k = 1 ∧ askE S [o.a.data.toList] = 0 ∧ (get S.nm o.a.data.toList).isSome = false) := fun x => hk x.1
    generalize hR : (if o.k = 1 ∧ askE S [o.a.data.toList] = 0 ∧ (get S.nm o.a.data.toList).isSome = false then S.ids ++ [f] else S.ids) = R
    rw [if_neg hn] at hR
    subst hR
    unfold app syn tru ren rem sd
    repeat' split
    all_goals first | rfl | exact e
theorem Iso.range (h : Iso φ S T) (hd : T.down = S.down) (ha : S.armed = false) (hc : (Dk.cnt T).1 = 0) (hr : ∀ k ∈ S.ids, φ k ∈ T.ids) (o : Rop) (f : Nat) : ∀ k ∈ (doS S o f).ids, φ k ∈ (doS T o (φ f)).ids := by
  have h1 : askE T [o.a.data.toList] = askE S [o.a.data.toList] := by unfold askE; rw [hd]
  have h2 : (get T.nm o.a.data.toList).isSome = (get S.nm o.a.data.toList).isSome := by rw [h.nm, get_mp, Option.isSome_map]
  rw [do_ids (by rw [cnt_un ha]) o f, do_ids hc o (φ f), h1, h2]
  split
  · intro k hk
    rcases List.mem_append.1 hk with e | e
    · exact List.mem_append_left _ (hr k e)
    · rw [List.mem_singleton.1 e]
      simp
  · exact hr
end
end Dk
end Go.Proofs.YtppabcihbpbfpaaGreatDoor
