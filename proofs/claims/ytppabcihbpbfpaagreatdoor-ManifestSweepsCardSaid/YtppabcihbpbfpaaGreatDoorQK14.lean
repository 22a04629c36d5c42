import Derived.Test.YtppabcihbpbfpaaGreatDoorQK13
/-
  Package disk, pure: every changing call does the same on the program's disk and on the document's.
-/
namespace Go.Proofs.YtppabcihbpbfpaaGreatDoor
open Go Go.RowKit Go.ChangeShapes
namespace Rd
open Dk
section
variable {S : DS} {R : RS} {N : Nat} {o : Rop}
theorem Rl.cnt (h : Rl S R) (hW : WF S N) : (R.left = 0 ∧ (Dk.cnt S).1 = 60 ∧ Rl (Dk.cnt S).2 { R with down := true }) ∨ (R.left ≠ 0 ∧ (Dk.cnt S).1 = 0 ∧ Rl (Dk.cnt S).2 { R with left := if R.left > 0 then R.left - 1 else R.left }) := by
  unfold Dk.cnt
  by_cases ha : S.armed = false
  · have hl : R.left = -1 := by
      rw [h.arm, ha]
      rfl
    rw [if_pos ha]
    refine .inr ⟨by omega, rfl, ?_⟩
    rw [if_neg (by omega)]
    exact h
  · have ha' : S.armed = true := by simpa using ha
    have hl : R.left = S.left := by rw [h.arm, if_pos ha']
    have h0 := (hW.ar ha').1
    rw [if_neg ha]
    by_cases hz : S.left = 0
    · rw [if_pos hz]
      exact .inl ⟨by omega, rfl, ⟨h.quota, rfl, h.arm, h.len, h.nd, h.nm, h.la, h.ch, h.cur, h.fo, h.tk, h.ok⟩⟩
    · rw [if_neg hz]
      refine .inr ⟨by omega, rfl, ?_⟩
      rw [if_pos (by omega)]
      refine ⟨h.quota, h.down, ?_, h.len, h.nd, h.nm, h.la, h.ch, h.cur, h.fo, h.tk, h.ok⟩
      show R.left - 1 = if S.armed = true then S.left - 1 else -1
      rw [if_pos ha', hl]
theorem down_do (hd : S.down = true) (o : Rop) (f : Nat) : doE S o = 60 ∧ doS S o f = S := by
  have a : ∀ ls, askE S ls = 60 := down_ask hd
  have b : ∀ s, (findE S s).1 = 60 := down_find hd
  unfold doE doS crtE crt appE app synE syn truE tru renE ren rem sdE sd synE
  simp only [a, b]
  refine ⟨?_, ?_⟩
  · repeat' split
    all_goals first | rfl | omega
  · repeat' split
    all_goals first | rfl | omega
theorem rref_zero (hr : rref R o = 0) (k7 : o.k ≠ 7) : isNm o.a.data.toList = true ∧ (o.k = 5 → isNm o.b.data.toList = true) ∧ (o.k = 1 → get R.nm o.a.data.toList = none) ∧ (o.k ≠ 1 → ∃ i, get R.nm o.a.data.toList = some i ∧ (o.k = 4 → ¬ (o.n < 0 ∨ o.n > ((R.th.getD i ⟨[], 0, false⟩).data.length : Int))) ∧ (o.k = 2 → ¬ (o.data.length : Int) > R.quota - (tkn R.th : Int))) := by
  unfold rref at hr
  rw [if_neg k7] at hr
  split at hr
  · omega
  rename_i hn
  split at hr
  · omega
  rename_i hb
  refine ⟨by simpa using hn, fun k5 => by simpa [k5] using hb, fun k1 => ?_, fun k1 => ?_⟩
  · rw [if_pos k1] at hr
    split at hr
    · omega
    · rename_i hs
      simpa using hs
  · rw [if_neg k1] at hr
    cases hg : get R.nm o.a.data.toList with
    | none =>
      rw [hg] at hr
      have hr' : (63 : Int) = 0 := hr
      omega
    | some i =>
      rw [hg] at hr
      have hr' : (if o.k = 4 ∧ (o.n < 0 ∨ o.n > ((R.th.getD i ⟨[], 0, false⟩).data.length : Int)) then (65 : Int) else if o.k = 2 ∧ (o.data.length : Int) > R.quota - (tkn R.th : Int) then 64 else 0) = 0 := hr
      refine ⟨i, rfl, fun k4 hc => ?_, fun k2 hc => ?_⟩
      · rw [if_pos ⟨k4, hc⟩] at hr'
        omega
      · rw [if_neg (fun e => by omega), if_pos ⟨k2, hc⟩] at hr'
        omega
theorem mp_id (l : Nm) : mp id l = l := by
  unfold mp
  exact List.map_id' l
theorem chmp_id (c : Ch) : c.mp id = c := by
  unfold Ch.mp
  cases c with
  | mk a b f => cases f <;> rfl
/-- a disk and the same one that is not armed -/
theorem iso_un (_hW : WF S N) (hc : ∀ c ∈ S.ch, ∀ f, c.f = some f → f ∈ S.ids) : Iso id { S with armed := false } S := by
  refine ⟨rfl, rfl, (mp_id _).symm, (mp_id _).symm, ?_, fun f _ => rfl, fun f _ g _ e => e, hc⟩
  show S.ch = S.ch.map (Ch.mp id)
  rw [show (Ch.mp id) = id from funext chmp_id, List.map_id]
theorem CR.ids {th : List Th} {φ : Nat → Nat} {I : List Nat} (hI : ∀ i, tok th i → φ i ∈ I) : ∀ {cs : List RCh} {ds : List Ch} {l : Nm}, CR th φ l cs ds → okl th l → ∀ d ∈ ds, ∀ f, d.f = some f → f ∈ I
  | [], [], _, _, _, d, hd => by cases hd
  | c :: cs, e :: ds, l, h, ho, d, hd => by
    rcases List.mem_cons.1 hd with e2 | e2
    · subst e2
      intro f hf
      rcases h.1 with ⟨-, e3, -, h3⟩ | ⟨-, ⟨i, hg, e3⟩, -⟩ | ⟨-, e3⟩
      · rw [e3] at hf
        rw [← Option.some.inj hf]
        exact hI _ h3
      · rw [e3] at hf
        rw [← Option.some.inj hf]
        exact hI _ (get_tok ho hg)
      · rw [e3] at hf
        cases hf
    · exact CR.ids hI h.2 (h.1.app ho).2 d e2
  | [], _ :: _, _, h, _, _, _ => h.elim
  | _ :: _, [], _, h, _, _, _ => h.elim
theorem Rl.cf (h : Rl S R) : ∀ c ∈ S.ch, ∀ f, c.f = some f → f ∈ S.ids := CR.ids (fun i hi => ix_mem S (by rw [← h.len]; exact tok_lt hi)) h.ch h.ok
theorem Rl.done (h : Rl S R) (hW : WF S N) (o : Rop) (f : Nat) (hf : f ∉ S.ids) (hk : 1 ≤ o.k ∧ o.k ≤ 7) (hd : S.down = false) (hr : rref R o = 0) (x : Int) (c1 : (Dk.cnt S).1 = 0) (c2 : Rl (Dk.cnt S).2 { R with left := x }) : Rl (doS S o f) { ract R o with left := x } := by
  obtain ⟨q1, q2, q3, q4, q5, q6, q7⟩ := cnt_same S
  have hix : ∀ i, ix (Dk.cnt S).2 i = ix S i := fun i => by
    unfold ix
    rw [q6]
  rw [← ract_left]
  unfold doS ract
  by_cases k7 : o.k = 7
  · rw [if_neg (by omega), if_neg (by omega), if_neg (by omega), if_neg (by omega), if_neg (by omega), if_neg (by omega), if_neg (by omega), if_neg (by omega), if_neg (by omega), if_neg (by omega), if_neg (by omega), if_neg (by omega)]
    unfold sd
    rw [if_pos (by simp [askE, hd]), if_pos c1]
    have h9 := c2.lsg hW.cnt
    show Rl { (Dk.cnt S).2 with la := S.nm, ch := [], taken := (tot S.nm S.fo : Int) } _
    rw [← q3, ← q7]
    exact h9
  obtain ⟨r1, r2, r3, r4⟩ := rref_zero hr k7
  have hne : o.a.data.toList ≠ [] := (isNm_len r1).1
  have hask : askE S [o.a.data.toList] = 0 := ask_yes hd r1
  by_cases k1 : o.k = 1
  · rw [if_pos k1, if_pos k1]
    unfold crt
    have hg : get S.nm o.a.data.toList = none := by rw [(h.at _).1, r3 k1]; rfl
    rw [if_pos ⟨hask, by rw [hg]; rfl⟩, if_pos c1]
    have h9 := (c2.made f (by rw [q6]; exact hf)).nmd ⟨1, o.a.data.toList, [], R.th.length⟩ ⟨[], o.a.data.toList, some f⟩ (.inl ⟨rfl, by
      show Ch.mk [] o.a.data.toList (some f) = Ch.mk [] o.a.data.toList (some (ix (Dk.mk (Dk.cnt S).2 f) R.th.length))
      have hl : R.th.length = (Dk.cnt S).2.ids.length := c2.len
      rw [hl, ix_new], hne, ⟨⟨[], 0, true⟩, List.getElem?_concat_length, rfl⟩⟩)
    have h8 : Rl { Dk.mk (Dk.cnt S).2 f with nm := Ch.app ⟨[], o.a.data.toList, some f⟩ (Dk.cnt S).2.nm, ch := (Dk.cnt S).2.ch ++ [⟨[], o.a.data.toList, some f⟩] } (Rd.nmd { ({ R with left := x } : RS) with th := R.th ++ [⟨[], 0, true⟩] } ⟨1, o.a.data.toList, [], R.th.length⟩) := h9
    rw [q3, q5] at h8
    exact h8
  rw [if_neg k1, if_neg k1]
  obtain ⟨i, hg, r5, r6⟩ := r4 k1
  obtain ⟨t, ht, hth, hfo⟩ := (h.at _).2 i hg
  have hgS : get S.nm o.a.data.toList = some (ix S i) := by rw [(h.at _).1, hg]; rfl
  have hfil : fil S o.a.data.toList = ix S i := fil_nm S _ hd r1 hgS
  have hfin : (findE S o.a.data.toList).1 = 0 := by
    rw [find_nm S _ hd, if_pos r1, hgS]
  have e1 : thn { R with left := x } o = i := by
    show (get R.nm _).getD 0 = i
    rw [hg]
    rfl
  have e2 : tha { R with left := x } o = t := by
    unfold tha
    rw [e1]
    show R.th.getD i _ = t
    rw [List.getD_eq_getElem?_getD, ht]
    rfl
  have e3 : R.th.getD i ⟨[], 0, false⟩ = t := by
    rw [List.getD_eq_getElem?_getD, ht]
    rfl
  have cfo : (Dk.cnt S).2.fo (ix S i) = ⟨t.data, t.syn⟩ := by
    rw [q7]
    exact hfo
  have up : ∀ (x9 : Fl) (tk : Int), tk = S.taken + x9.data.length - t.data.length → Rl { (Dk.cnt S).2 with fo := Dk.upd (Dk.cnt S).2.fo (ix S i) x9, taken := tk } { ({ R with left := x } : RS) with th := R.th.set i ⟨x9.data, x9.syn, true⟩ } := fun x9 tk htk => by
    have h9 := c2.upd (i := i) (t := t) ht hth x9 tk (by rw [q2]; exact htk)
    rw [hix i] at h9
    exact h9
  rw [e1, e2]
  by_cases k2 : o.k = 2
  · rw [if_pos k2, if_pos k2]
    unfold app
    rw [if_pos ⟨hfin, by rw [← h.quota, h.tk]; exact r6 k2⟩, if_pos c1, hfil, cfo, hth]
    exact up ⟨t.data ++ o.data, t.syn⟩ (S.taken + (o.data.length : Int)) (by
      show _ = S.taken + (((t.data ++ o.data).length : Nat) : Int) - _
      rw [List.length_append]
      omega)
  rw [if_neg k2, if_neg k2]
  by_cases k3 : o.k = 3
  · rw [if_pos k3, if_pos k3]
    unfold syn
    rw [if_pos hfin, if_pos c1, hfil, cfo, hth]
    have h9 := up ⟨t.data, t.data.length⟩ (Dk.cnt S).2.taken (by
      rw [q2]
      show _ = S.taken + ((t.data.length : Nat) : Int) - _
      omega)
    exact h9
  rw [if_neg k3, if_neg k3]
  by_cases k4 : o.k = 4
  · rw [if_pos k4, if_pos k4]
    unfold tru
    have hb := r5 k4
    rw [e3] at hb
    have hb2 : bad S (fil S o.a.data.toList) o.n = false := by
      unfold bad
      rw [hfil, hfo]
      exact decide_eq_false hb
    rw [if_pos ⟨hfin, hb2⟩, if_pos c1, hfil, hfo, hth]
    exact up ⟨t.data.take o.n.toNat, min t.syn o.n.toNat⟩ (S.taken - (((⟨t.data, t.syn⟩ : Fl).data.length : Int) - o.n)) (by
      show S.taken - ((t.data.length : Int) - o.n) = S.taken + (((t.data.take o.n.toNat).length : Nat) : Int) - _
      rw [List.length_take]
      omega)
  rw [if_neg k4, if_neg k4]
  by_cases k5 : o.k = 5
  · rw [if_pos k5, if_pos k5]
    unfold ren
    have hask2 : askE S [o.a.data.toList, o.b.data.toList] = 0 := by simp [askE, hd, r1, r2 k5]
    rw [if_pos ⟨hask2, hfin⟩, if_pos c1, hfil]
    have h9 := c2.nmd ⟨2, o.a.data.toList, o.b.data.toList, 0⟩ ⟨o.a.data.toList, o.b.data.toList, some (ix S i)⟩ (.inr (.inl ⟨rfl, ⟨i, hg, by rw [hix]⟩, (isNm_len (r2 k5)).1⟩))
    exact h9
  · have k6 : o.k = 6 := by
      clear r5 r6 r4
      omega
    rw [if_neg k5, if_neg k5, if_pos k6, if_pos k6]
    unfold rem
    rw [if_pos hfin, if_pos c1]
    exact c2.nmd ⟨3, o.a.data.toList, [], 0⟩ ⟨o.a.data.toList, [], none⟩ (.inr (.inr ⟨rfl, rfl⟩))
/-- a changing call -/
theorem Rl.do (h : Rl S R) (hW : WF S N) (o : Rop) (f : Nat) (hf : f ∉ S.ids) (hk : 1 ≤ o.k ∧ o.k ≤ 7) : doE S o = (rdo R o).2 ∧ Rl (doS S o f) (rdo R o).1 := by
  unfold rdo
  by_cases hd : S.down = true
  · obtain ⟨e1, e2⟩ := down_do hd o f
    rw [if_pos (h.down.trans hd), e1, e2]
    exact ⟨rfl, h⟩
  have hd' : S.down = false := by simpa using hd
  rw [if_neg (by rw [h.down]; exact hd)]
  have hI := iso_un hW h.cf
  have hWU : WF { S with armed := false } N := ⟨hW.q, hW.tk, hW.live, hW.inj, hW.nm, hW.la, hW.ch, hW.fl, (fun e => by cases e), hW.n1, hW.n2, hW.n3⟩
  have hu : doE { S with armed := false } o = rref R o := by
    have hRU : Rl { S with armed := false } { R with left := -1 } := ⟨h.quota, h.down, rfl, h.len, h.nd, h.nm, h.la, h.ch, h.cur, h.fo, h.tk, h.ok⟩
    rw [hRU.err hk hd', cnt_un rfl]
    show (if rref R o = 0 then (0 : Int) else rref R o) = rref R o
    split
    · rename_i e
      exact e.symm
    · rfl
  have e1 := hI.doE rfl rfl hWU o
  have e2 := hI.stop rfl rfl hWU o f
  rw [hu] at e1 e2
  by_cases hr : rref R o = 0
  · rw [if_pos hr] at e1
    rw [if_neg (fun e => e hr)]
    rcases h.cnt hW with ⟨l0, c1, c2⟩ | ⟨l0, c1, c2⟩
    · rw [if_pos l0, e1, c1, e2.2 hr (by rw [c1]; omega)]
      exact ⟨rfl, c2⟩
    · rw [if_neg l0, e1, c1]
      exact ⟨rfl, h.done hW o f hf hk hd' hr _ c1 c2⟩
  · rw [if_pos hr, e1, if_neg hr, e2.1 hr]
    exact ⟨rfl, h⟩
/-- Arm -/
def rarm (R : RS) (n : Int) : RS := if R.down = true then R else { R with left := if n < 0 then -1 else n }
theorem Rl.armed (h : Rl S R) (n : Int) : Rl (Dk.arm S n) (rarm R n) := by
  unfold Dk.arm rarm
  by_cases hd : S.down = true
  · rw [if_pos hd, if_pos (h.down.trans hd)]
    exact h
  · rw [if_neg hd, if_neg (by rw [h.down]; exact hd)]
    refine ⟨h.quota, h.down, ?_, h.len, h.nd, h.nm, h.la, h.ch, h.cur, h.fo, h.tk, h.ok⟩
    show (if n < 0 then -1 else n) = if decide (0 ≤ n) = true then n else -1
    by_cases e : n < 0
    · rw [if_pos e, if_neg (by simp; omega)]
    · rw [if_neg e, if_pos (by simp; omega)]
/-- what the document's disk tells -/
def rfiles (R : RS) : List (List UInt8 × List Nat) := R.nm.map fun p => (p.1, (R.th.getD p.2 ⟨[], 0, false⟩).data)
def rcrash (R : RS) (keep : Int) (cs : List (Int × Int)) : List (List UInt8 × List Nat) := (chs R.la (R.ch.take (wth keep (R.ch.length : Int)).toNat)).mapIdx fun k p => (p.1, lv ⟨(R.th.getD p.2 ⟨[], 0, false⟩).data, (R.th.getD p.2 ⟨[], 0, false⟩).syn⟩ (cs.getD k (0, 0)))
theorem Rl.th (h : Rl S R) {i : Nat} (hi : tok R.th i) : S.fo (ix S i) = ⟨(R.th.getD i ⟨[], 0, false⟩).data, (R.th.getD i ⟨[], 0, false⟩).syn⟩ := by
  obtain ⟨t, h1, h2⟩ := hi
  rw [h.fo i t h1 h2, List.getD_eq_getElem?_getD, h1]
  rfl
theorem Rl.files (h : Rl S R) : rfiles R = Dk.files S := by
  unfold rfiles Dk.files
  rw [h.nm]
  unfold mp
  rw [List.map_map]
  refine List.map_congr_left fun p hp => ?_
  show _ = (p.1, (S.fo (ix S p.2)).data)
  rw [h.th (h.okn p hp).2]
theorem Rl.crash (h : Rl S R) (keep : Int) (cs : List (Int × Int)) : rcrash R keep cs = Dk.crash S keep cs := by
  unfold rcrash Dk.crash crL lvN lvK
  rw [← h.ch.len, h.la]
  obtain ⟨h1, h2⟩ := h.ch.take h.ok (wth keep (R.ch.length : Int)).toNat
  rw [h1]
  refine List.ext_getElem (by unfold mp; simp) fun i h3 h4 => ?_
  rw [List.getElem_mapIdx, List.getElem_mapIdx]
  unfold mp
  rw [List.getElem_map]
  show _ = (_, lv (S.fo (ix S _)) _)
  rw [h.th (h2 _ (List.getElem_mem _)).2]
def rfree (R : RS) : Int := if R.down = true then 0 else R.quota - (tkn R.th : Int)
theorem Rl.free (h : Rl S R) : rfree R = Dk.free S := by
  unfold rfree Dk.free
  rw [h.down, h.quota, h.tk]
def rlst (R : RS) : List (List UInt8) := if R.down = true then [] else R.nm.map (·.1)
theorem Rl.lst (h : Rl S R) : rlst R = Dk.lst S := by
  unfold rlst Dk.lst
  rw [h.down, h.nm]
  unfold mp
  rw [List.map_map]
  rfl
/-- Read -/
def rread (R : RS) (s : List UInt8) : List Nat × Int := if R.down = true then ([], 60) else if isNm s = false then ([], 61) else match get R.nm s with
  | none => ([], 63)
  | some i => ((R.th.getD i ⟨[], 0, false⟩).data, 0)
theorem Rl.read (h : Rl S R) (s : List UInt8) : rread R s = (rdD S s, (findE S s).1) := by
  unfold rread rdD
  by_cases hd : S.down = true
  · rw [if_pos (h.down.trans hd), down_find hd, if_neg (by omega)]
  · have hd' : S.down = false := by simpa using hd
    rw [if_neg (by rw [h.down]; exact hd), find_nm S s hd']
    by_cases hs : isNm s = true
    · rw [if_neg (by rw [hs]; simp), if_pos hs, (h.at s).1]
      cases hg : get R.nm s with
      | none => rfl
      | some i =>
        show _ = (if (0 : Int) = 0 then (S.fo (fil S s)).data else [], (0 : Int))
        rw [if_pos rfl, fil_nm S s hd' hs (i := ix S i) (by rw [(h.at s).1, hg]; rfl), h.th (get_tok h.okn hg)]
    · rw [if_pos (by simpa using hs), if_neg hs, if_neg (by omega)]
end
end Rd
end Go.Proofs.YtppabcihbpbfpaaGreatDoor

/-
  The document's disk: rows in memory.
-/
namespace Go.Proofs.YtppabcihbpbfpaaGreatDoor
open Go Go.RowKit Go.ChangeShapes
open Wb
namespace Rd
section
variable {α : Type} {en : α → List Value} {c : Nat}
theorem flat_len (hen : ∀ x, (en x).length = c) : ∀ xs : List α, (xs.flatMap en).length = xs.length * c
  | [] => by simp
  | x :: r => by
    rw [List.flatMap_cons, List.length_append, flat_len hen r, hen, List.length_cons, Nat.add_mul]
    omega
theorem flat_at (hen : ∀ x, (en x).length = c) : ∀ (xs : List α) (j i : Nat) (h : j < xs.length), i < c → (xs.flatMap en)[j * c + i]? = (en xs[j])[i]?
  | [], j, _, h, _ => by simp at h
  | x :: r, 0, i, _, hi => by
    rw [List.flatMap_cons, Nat.zero_mul, Nat.zero_add, List.getElem?_append_left (by rw [hen]; exact hi)]
    rfl
  | x :: r, j + 1, i, h, hi => by
    have hj : j < r.length := by simpa using h
    have h9 := flat_at hen r j i hj hi
    rw [List.flatMap_cons, show (j + 1) * c + i = (en x).length + (j * c + i) by rw [hen, Nat.add_mul]; omega, List.getElem?_append_right (by omega), Nat.add_sub_cancel_left, h9]
    rfl
/-- rows of this type -/
structure TI (e st : TypeId) (c : Nat) : Prop where
  u : Tryz.prog.underlying st = some (.slice e)
  i : ∃ i z k, Tryz.prog.info? e = some i ∧ i.zero = some z ∧ i.size = c ∧ i.bytes = k ∧ z.cells.size = c ∧ k ≤ 100
  c0 : 0 < c
theorem ti_of {e st : TypeId} {c k : Nat} {z : Value} (hu : Tryz.prog.underlying st = some (.slice e)) (h : (Tryz.prog.info? e).map (fun i => (i.zero, i.size, i.bytes)) = some (some z, c, k)) (hz : z.cells.size = c) (hk : k ≤ 100) (h0 : 0 < c) : TI e st c := by
  obtain ⟨i0, hi, hq⟩ := Option.map_eq_some_iff.1 h
  simp only [Prod.mk.injEq] at hq
  exact ⟨hu, ⟨i0, z, k, hi, hq.1, hq.2.1, hq.2.2, hz, hk⟩, h0⟩
/-- a row to be read; its block is as told -/
structure Rw (ok : Nat → Prop) (w : World) (t : TypeId) (c : Nat) (en : α → List Value) (v : Value) (xs : List α) : Prop where
  row : w.ownsRow 0 t c v xs.length (xs.flatMap en)
  ok : ∀ q, v.ownBlock = some q → ok q
section
variable {ok : Nat → Prop} {w w' : World} {t : TypeId} {v : Value} {xs ys : List α} {B : Nat}
theorem Rw.blk (h : Rw ok w t c en v xs) (hb : ∀ q, ok q → q < w.heap.size → w'.heap[q]? = w.heap[q]?) : Rw ok w' t c en v xs := ⟨Mg.row_block h.row fun g hg => hb g (h.ok g hg) (World.ownsRow.lt h.row g hg).2, h.ok⟩
theorem Rw.kept (h : Rw ok w t c en v xs) (hb : Below w.heap.size w w') : Rw ok w' t c en v xs := ⟨Mg.row_kept h.row hb, h.ok⟩
theorem Rw.mono {ok2 : Nat → Prop} (h : Rw ok w t c en v xs) (hm : ∀ q, ok q → ok2 q) : Rw ok2 w t c en v xs := ⟨h.row, fun q e => hm q (h.ok q e)⟩
theorem Rw.of (h : w.ownsRow B t c v xs.length (xs.flatMap en)) : Rw (B ≤ ·) w t c en v xs := ⟨row_low h (Nat.zero_le _), fun q e => (World.ownsRow.lt h q e).1⟩
theorem Rw.nil (ok : Nat → Prop) (w : World) (t : TypeId) (c : Nat) (en : α → List Value) : Rw ok w t c en (.slice none 0 0) [] := ⟨World.ownsRow_nil _ _ _ _, fun q e => by cases e⟩
theorem row_at (h : w.ownsRow B t c v xs.length (xs.flatMap en)) : ∃ a k, v = .slice a xs.length k ∧ xs.length ≤ k ∧ k ≤ maxLen ∧ (xs ≠ [] → ∃ b, a = some ⟨b, 0, none⟩) := by
  rcases h.2 with ⟨e, h0⟩ | ⟨g, k, cur, e, -, -, h1, h2, -⟩
  · exact ⟨none, 0, by rw [e, h0], by omega, Nat.zero_le _, fun hne => absurd (List.eq_nil_of_length_eq_zero h0) hne⟩
  · exact ⟨_, k, e, h1, h2, fun _ => ⟨g, rfl⟩⟩
theorem row_cell (hen : ∀ x, (en x).length = c) {b k : Nat} (h : w.ownsRow B t c (.slice (some ⟨b, 0, none⟩) xs.length k) xs.length (xs.flatMap en)) (j : Nat) (hj : j < xs.length) (i : Nat) (hi : i < c) : w.cell? ⟨b, j * c + i, none⟩ = (en xs[j])[i]? := by
  have hl : j * c + i < xs.length * c := by
    have h2 : (j + 1) * c ≤ xs.length * c := Nat.mul_le_mul_right c hj
    rw [Nat.add_mul] at h2
    omega
  rw [World.ownsRow.cellAt h (j * c + i) hl]
  exact flat_at hen xs j i hj hi
/-- append of elements that lie somewhere, its run -/
theorem row_app {e st : TypeId} (T : TI e st c) (hen : ∀ x, (en x).length = c) (h : w.ownsRow B e c v xs.length (xs.flatMap en)) (a : Addr) (k : Nat) (hone : ∀ x ∈ ys, ∀ u ∈ en x, u.oneCell' = true) (hcell : ∀ j u, (ys.flatMap en)[j]? = some u → w.cell? (a.add j) = some u) (hmax : xs.length + ys.length ≤ 1000000000) (hB : B ≤ w.heap.size) (ty : TypeId) : ∃ v' w', (Builtin.append_ #[st, st] ty #[v, .slice (some a) ys.length k]).run Tryz.prog w = .ok v' w' ∧ w'.ownsRow B e c v' (xs ++ ys).length ((xs ++ ys).flatMap en) ∧ w.grownBy w' v.ownBlock ∧ Below B w w' := by
  obtain ⟨i0, z, k0, h1, h2, h3, h4, h5, h6⟩ := T.i
  have hb : (xs.length + ys.length) * k0 ≤ 140737488355328 := by
    have := Nat.mul_le_mul hmax h6
    omega
  obtain ⟨v', w', hr, h7, h8, -, -⟩ := run_append_own_at (P := Tryz.prog) w B st ty e i0 z c k0 T.u h1 h2 h3 h4 h5 T.c0 v xs.length _ h a ys.length k (ys.flatMap en) (flat_len hen ys) hcell (fun u hu => by
    obtain ⟨x, hx, hu2⟩ := List.mem_flatMap.1 hu
    exact hone x hx u hu2) (by unfold maxLen; omega) hb hB
  refine ⟨v', w', hr, ?_, h8, (Below.refl B w).grown h8 hB fun q e => (World.ownsRow.lt h q e).1⟩
  rw [List.length_append, List.flatMap_append]
  exact h7
/-- append of one element -/
theorem row_app1 {e st : TypeId} (T : TI e st c) (hen : ∀ x, (en x).length = c) (h : w.ownsRow B e c v xs.length (xs.flatMap en)) (x : α) (g k : Nat) (hone : ∀ u ∈ en x, u.oneCell' = true) (hc : LB w g e (en x)) (hmax : xs.length ≤ 900000000) (hB : B ≤ w.heap.size) (ty : TypeId) : ∃ v' w', (Builtin.append_ #[st, st] ty #[v, .slice (some ⟨g, 0, none⟩) 1 k]).run Tryz.prog w = .ok v' w' ∧ w'.ownsRow B e c v' (xs ++ [x]).length ((xs ++ [x]).flatMap en) ∧ w.grownBy w' v.ownBlock ∧ Below B w w' := row_app (ys := [x]) T hen h ⟨g, 0, none⟩ k (fun y hy => by rw [List.mem_singleton.1 hy]; exact hone) (fun j u hj => by
    rw [Addr.add_lit, Nat.zero_add]
    rw [List.flatMap_cons, List.flatMap_nil, List.append_nil] at hj
    exact hc.cell j u hj) (by simp; omega) hB ty
/-- append of a whole row -/
theorem row_appR {e st : TypeId} (T : TI e st c) (hen : ∀ x, (en x).length = c) (h : w.ownsRow B e c v xs.length (xs.flatMap en)) {yv : Value} (hy : w.ownsRow 0 e c yv ys.length (ys.flatMap en)) (hone : ∀ x ∈ ys, ∀ u ∈ en x, u.oneCell' = true) (hmax : xs.length + ys.length ≤ 1000000000) (hB : B ≤ w.heap.size) (ty : TypeId) : ∃ v' w', (Builtin.append_ #[st, st] ty #[v, yv]).run Tryz.prog w = .ok v' w' ∧ w'.ownsRow B e c v' (xs ++ ys).length ((xs ++ ys).flatMap en) ∧ w.grownBy w' v.ownBlock ∧ Below B w w' := by
  rcases hy.2 with ⟨e1, h0⟩ | ⟨g, k, cur, e1, hrest⟩
  · obtain ⟨i0, z, k0, h1, -⟩ := T.i
    have h9 : ys = [] := List.eq_nil_of_length_eq_zero h0
    subst h9
    obtain ⟨a1, c1, e2, hc1, -⟩ := row_at h
    refine ⟨v, w, ?_, by simpa using h, World.grownBy.refl _ _, Below.refl _ _⟩
    rw [e1, e2]
    cases a1 <;> simp [Builtin.append_, run_underlying T.u, sizeOf, typeInfo, h1, Builtin.lenOf, Builtin.firstCells, hc1, storeCells]
  · subst e1
    refine row_app T hen h ⟨g, 0, none⟩ k hone (fun j u hj => ?_) hmax hB ty
    rw [Addr.add_lit, Nat.zero_add]
    have hjl : j < ys.length * c := by
      rw [← flat_len hen ys]
      exact (List.getElem?_eq_some_iff.1 hj).1
    rw [World.ownsRow.cellAt hy j hjl]
    exact hj
end
end
/-- a name and a thing's number -/
def enE (p : List UInt8 × Nat) : List Value := [enS p.1, .int .i64 (p.2 : Int)]
theorem enE_len (p : List UInt8 × Nat) : (enE p).length = 2 := rfl
theorem enE_one (p : List UInt8 × Nat) : ∀ u ∈ enE p, u.oneCell' = true := fun u hu => by
  simp [enE] at hu
  rcases hu with rfl | rfl <;> rfl
/-- a thing: where its bytes lie, and what it is -/
def enT (x : Value × Th) : List Value := [x.1, .int .i64 (x.2.syn : Int), .bool x.2.there]
theorem enT_len (x : Value × Th) : (enT x).length = 3 := rfl
/-- a change -/
def enG (x : RCh) : List Value := [.int .i64 x.k, enS x.a, enS x.b, .int .i64 (x.f : Int)]
theorem enG_len (x : RCh) : (enG x).length = 4 := rfl
theorem enG_one (p : RCh) : ∀ u ∈ enG p, u.oneCell' = true := fun u hu => by
  simp [enG] at hu
  rcases hu with rfl | rfl | rfl | rfl <;> rfl
def enN (s : List UInt8) : List Value := [enS s]
theorem enN_len (x : List UInt8) : (enN x).length = 1 := rfl
theorem tiN : TI 9 39 1 := ti_of (z := .string ⟨#[]⟩) (k := 16) Tryz.underlying39 (by kernel_rfl) rfl (by decide) (by decide)
end Rd
end Go.Proofs.YtppabcihbpbfpaaGreatDoor

/-
  The document's disk: part, find, without, with.
-/
namespace Go.Proofs.YtppabcihbpbfpaaGreatDoor
open Go Go.RowKit Go.ChangeShapes
open Wb
namespace Rd
open Dk
theorem less_eq : ∀ a b : List UInt8, Op.bytesLess a b = bytesBefore a b
  | [], [] => rfl
  | [], _ :: _ => rfl
  | _ :: _, [] => rfl
  | x :: a, y :: b => by rw [bytesBefore, Op.bytesLess, less_eq a b]
theorem str_beq {a b : List UInt8} (h : a = b) : (a == b) = true := by
  rw [h]
  exact beq_self_eq_true _
theorem str_bne {a b : List UInt8} (h : a ≠ b) : (a == b) = false := beq_eq_false_iff_ne.2 h
theorem get_at : ∀ (l : Nm) (s : List UInt8) (i : Nat) (h : i < l.length), (∀ j (_ : j < i) (h2 : j < l.length), l[j].1 ≠ s) → l[i].1 = s → get l s = some l[i].2
  | [], _, _, h, _, _ => by simp at h
  | p :: r, s, 0, _, _, e => by
    have e2 : p.1 = s := e
    rw [get_cons, if_pos e2]
    rfl
  | p :: r, s, i + 1, h, hn, e => by
    have h0 : p.1 ≠ s := hn 0 (by omega) (by simp)
    rw [get_cons, if_neg h0]
    exact get_at r s i (by simpa using h) (fun j hj h2 => hn (j + 1) (by omega) (by simpa using h2)) e
theorem get_none : ∀ (l : Nm) (s : List UInt8), (∀ j (h2 : j < l.length), l[j].1 ≠ s) → get l s = none
  | [], _, _ => rfl
  | p :: r, s, hn => by
    have h0 : p.1 ≠ s := hn 0 (by simp)
    rw [get_cons, if_neg h0]
    exact get_none r s fun j h2 => hn (j + 1) (by simpa using h2)
theorem del_snoc (l : Nm) (p : List UInt8 × Nat) (s : List UInt8) : del (l ++ [p]) s = if p.1 = s then del l s else del l s ++ [p] := by
  unfold del
  rw [List.filter_append]
  by_cases e : p.1 = s
  · rw [if_pos e]
    simp [e]
  · rw [if_neg e]
    simp [e]
/-- where a name goes -/
theorem ins_split (x : List UInt8 × Nat) : ∀ (l : Nm) (k : Nat) (_hk : k ≤ l.length), (∀ p ∈ l, p.1 ≠ x.1) → (∀ j (_ : j < k) (h2 : j < l.length), bytesBefore l[j].1 x.1 = true) → (∀ h : k < l.length, bytesBefore l[k].1 x.1 = false) → ins x l = l.take k ++ [x] ++ l.drop k
  | [], k, hk, _, _, _ => by
    simp
    rfl
  | y :: r, 0, _, hne, _, hk => by
    have h1 := hk (by simp)
    have h2 : bytesBefore x.1 y.1 = true := by
      cases e : bytesBefore x.1 y.1 with
      | true => rfl
      | false => exact absurd (bb_total _ _ h1 e) (hne y (List.mem_cons_self ..))
    rw [ins, if_pos h2]
    rfl
  | y :: r, k + 1, hk, hne, hb, hl => by
    have h1 := hb 0 (by omega) (by simp)
    have h2 : ¬ bytesBefore x.1 y.1 = true := fun e => by
      have h9 := bb_trans _ _ _ h1 e
      have h8 := bb_irrefl y.1
      have h7 : bytesBefore y.1 y.1 = true := h9
      rw [h8] at h7
      cases h7
    rw [ins, if_neg h2, ins_split x r k (by simpa using hk) (fun p hp => hne p (List.mem_cons_of_mem _ hp)) (fun j hj h3 => hb (j + 1) (by omega) (by simpa using h3)) (fun h => hl (by simpa using h))]
    rfl
end Rd
open Rd
/-- what find answers -/
def FnP (l : Dk.Nm) (s : List UInt8) (r : Int) : Prop := (r = -1 ∧ Dk.get l s = none) ∨ ∃ (i : Nat) (h : i < l.length), r = (i : Int) ∧ l[i].1 = s ∧ Dk.get l s = some l[i].2
end Go.Proofs.YtppabcihbpbfpaaGreatDoor
