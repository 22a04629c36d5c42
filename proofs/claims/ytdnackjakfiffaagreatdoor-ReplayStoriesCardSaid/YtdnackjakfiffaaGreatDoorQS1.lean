import Derived.Test.YtdnackjakfiffaaGreatDoorQL3
/-
  Saga, pure: a saga's values, Check, Begin, Apply, Allowed.
-/
namespace Go.Proofs.YtdnackjakfiffaaGreatDoor
open Go Go.RowKit
open Wb

/-- a saga's numbers -/
structure SN where
  id : Int
  cnt : Int
  piv : Int
  beg : Int
  la : Int
  ph : Int
  nx : Int
  fl : Bool
  tr : Int
  fs : Int
  fc : Int
deriving DecidableEq
/-- a saga -/
structure Sg where
  x : SN
  nm : ByteArray
  inp : List Nat
  outs : List (List Nat)
  und : List (List Nat)
  fail : List Nat
def zSg : Sg := ⟨⟨0, 0, 0, 0, 0, 0, 0, false, 0, 0, 0⟩, ⟨#[]⟩, [], [], [], []⟩
/-- where a saga's lists lie -/
structure SH where
  ai : Option Addr
  ci : Nat
  ao : Option Addr
  co : Nat
  au : Option Addr
  cu : Nat
  af : Option Addr
  cf : Nat
/-- a saga by value -/
def sv (S : Sg) (h : SH) : Value := .agg #[.int .i64 S.x.id, .string S.nm, .int .i64 S.x.cnt, .int .i64 S.x.piv, .int .i64 S.x.beg, .int .i64 S.x.la, .slice h.ai S.inp.length h.ci, .int .i64 S.x.ph, .int .i64 S.x.nx, .bool S.x.fl, .int .i64 S.x.tr, .slice h.ao S.outs.length h.co, .slice h.au S.und.length h.cu, .int .i64 S.x.fs, .int .i64 S.x.fc, .slice h.af S.fail.length h.cf]
namespace SN
def fwd (x : SN) : Bool := x.ph == 1 || x.ph == 3
def ended (x : SN) : Bool := x.ph == 3 || x.ph == 4
def atEnd (x : SN) : Bool := if x.fwd then x.nx == x.cnt else x.nx == 0
def turn (x : SN) : Int := if x.fwd then x.nx else x.nx - 1
def behind (x : SN) (p : Int) : Bool := x.piv != 0 && decide (x.piv ≤ p)
def outcome (x : SN) : Int := if x.fwd then 1 else 2
def nextTry (x : SN) : Int := min (x.tr + 1) 1000
end SN
/-- the phase of a kind -/
def kph (k : Int) : Int := if k = 2 ∨ k = 3 then 1 else if k = 5 ∨ k = 6 then 2 else 0
def lands (k : Int) : Bool := k == 3 || k == 4 || k == 6
def SN.inPh (x : SN) (k : Int) : Bool := kph k == 0 || kph k == x.ph
def SN.onTurn (x : SN) (k p : Int) : Bool := if k = 7 then x.atEnd else !x.atEnd && p == x.turn
def win (n lo hi : Int) : Bool := decide (lo ≤ n) && decide (n ≤ hi)
/-- no list is longer than 16384 -/
def shortP (ls : List (List Nat)) : Bool := ls.all fun l => decide (l.length ≤ 16384)
def bnd (S : Sg) : Bool := decide ((Text.Tx.nmA S.nm).1 = 0) && win S.x.id 1 9223372036854775807 && win S.x.cnt 1 32 && win S.x.piv 0 S.x.cnt && win S.x.beg 0 9223372036854775807 && win S.x.la 0 9223372036854775807 && win S.x.ph 1 4 && win S.x.tr 0 1000 && shortP [S.inp] && shortP [S.fail] && shortP S.outs && shortP S.und
def SN.settled (x : SN) : Bool := if x.atEnd || x.ended then !x.fl && x.tr == 0 else !x.fl || x.tr != 0
def wentOn (S : Sg) : Bool := if S.x.fs != 0 || S.x.fc != 0 || (S.fail.length : Int) != 0 || (S.und.length : Int) != 0 || !win S.x.nx 0 S.x.cnt || (S.outs.length : Int) != S.x.nx then false else if S.x.ph == 3 then S.x.nx == S.x.cnt else !(S.x.nx == 0 && S.x.tr == 0) || S.x.la == S.x.beg
def wentBack (S : Sg) : Bool := if S.x.fs != (S.outs.length : Int) || decide (S.x.cnt ≤ S.x.fs) || S.x.behind S.x.fs then false else if !win S.x.nx 0 S.x.fs || (S.und.length : Int) != S.x.fs - S.x.nx then false else S.x.ph == 2 || S.x.nx == 0
/-- what Check takes -/
def chkS (S : Sg) : Bool := bnd S && S.x.settled && (if S.x.fwd then wentOn S else wentBack S)
/-- why a record of version 3 may not come next -/
def refP (x : SN) (r : Nums) : Int :=
  if r.s ≠ x.id then 101 else if r.k = 1 then 102 else if x.ended then 103
  else if (!x.inPh r.k || (r.l == 1 && x.ph == 2)) then 104
  else if lands r.k != x.fl then 105
  else if !x.onTurn r.k r.p then 106
  else if r.t ≠ 0 ∧ r.t ≠ x.nextTry then 107
  else if (r.l == 1 && x.behind r.p) then 108
  else if r.k = 7 ∧ r.c ≠ 0 ∧ r.c ≠ x.outcome then 109 else 0
/-- what a record does -/
def deedS (S : Sg) (r : Rec) : Sg :=
  if r.x.k = 2 ∨ r.x.k = 5 then { S with x := { S.x with la := r.x.a, fl := true, tr := r.x.t } }
  else if r.x.k = 3 then { S with x := { S.x with la := r.x.a, fl := false, tr := 0, nx := S.x.nx + 1 }, outs := S.outs ++ [r.l] }
  else if r.x.k = 4 then (if r.x.l = 0 then { S with x := { S.x with la := r.x.a, fl := false } } else { S with x := { S.x with la := r.x.a, fl := false, tr := 0, ph := 2, fs := r.x.p, fc := r.x.c }, fail := r.l })
  else if r.x.k = 6 then { S with x := { S.x with la := r.x.a, fl := false, tr := 0, nx := S.x.nx - 1 }, und := S.und ++ [r.l] }
  else { S with x := { S.x with la := r.x.a, ph := if S.x.ph = 1 then 3 else 4 } }
/-- what Apply answers -/
def applyP (S : Sg) (r : Rec) : Int × Sg :=
  if chkS S = false then (100, zSg) else if (upP 3 r).1 ≠ 0 then ((upP 3 r).1, zSg) else if refP S.x (upP 3 r).2.x ≠ 0 then (refP S.x (upP 3 r).2.x, zSg) else (0, deedS S (upP 3 r).2)
/-- what Begin answers -/
def beginP (r : Rec) : Int × Sg :=
  if (upP 3 r).1 ≠ 0 then ((upP 3 r).1, zSg) else if (upP 3 r).2.x.k ≠ 1 then (102, zSg)
  else (0, ⟨⟨(upP 3 r).2.x.s, (upP 3 r).2.x.n, (upP 3 r).2.x.i, (upP 3 r).2.x.a, (upP 3 r).2.x.a, 1, 0, false, 0, 0, 0⟩, (upP 3 r).2.nm, (upP 3 r).2.l, [], [], []⟩)
/-- may a record of that kind come next? -/
def SN.may (x : SN) (k : Int) : Bool := x.inPh k && (lands k == x.fl) && ((k == 7) == x.atEnd)
def allowedP (S : Sg) : List Int := if chkS S = false ∨ S.x.ended = true then [] else [2, 3, 4, 5, 6, 7].filter S.x.may

/-- what stands in a record of version 3 -/
def V3 (r : Rec) : Prop := 1 ≤ r.x.s ∧ 0 ≤ r.x.a ∧ r.x.a ≤ 9223372036854775807 ∧ ((r.x.k = 1 ∧ r.x.p = 0 ∧ r.x.t = 0 ∧ r.x.l = 0 ∧ r.x.c = 0 ∧ 1 ≤ r.x.n ∧ r.x.n ≤ 32 ∧ 0 ≤ r.x.i ∧ r.x.i ≤ r.x.n ∧ lab r.nm = 0 ∧ r.l.length ≤ 16384) ∨ ((r.x.k = 2 ∨ r.x.k = 5) ∧ 0 ≤ r.x.p ∧ r.x.p ≤ 31 ∧ 1 ≤ r.x.t ∧ r.x.t ≤ 1000 ∧ r.x.l = 0 ∧ r.x.c = 0 ∧ r.x.n = 0 ∧ r.x.i = 0 ∧ r.nm = ⟨#[]⟩ ∧ r.l = []) ∨ ((r.x.k = 3 ∨ r.x.k = 6) ∧ 0 ≤ r.x.p ∧ r.x.p ≤ 31 ∧ r.x.t = 0 ∧ r.x.l = 0 ∧ r.x.c = 0 ∧ r.x.n = 0 ∧ r.x.i = 0 ∧ r.nm = ⟨#[]⟩ ∧ r.l.length ≤ 16384) ∨ (r.x.k = 4 ∧ 0 ≤ r.x.p ∧ r.x.p ≤ 31 ∧ r.x.t = 0 ∧ 0 ≤ r.x.l ∧ r.x.l ≤ 1 ∧ -9223372036854775808 ≤ r.x.c ∧ r.x.c ≤ 9223372036854775807 ∧ r.x.n = 0 ∧ r.x.i = 0 ∧ r.nm = ⟨#[]⟩ ∧ r.l.length ≤ 16384) ∨ (r.x.k = 7 ∧ r.x.p = 0 ∧ r.x.t = 0 ∧ r.x.l = 0 ∧ 0 ≤ r.x.c ∧ r.x.c ≤ 2 ∧ r.x.n = 0 ∧ r.x.i = 0 ∧ r.nm = ⟨#[]⟩ ∧ r.l = []))
theorem v3_iff (r : Rec) (hv : r.x.v = 3) : chk r.x r.nm r.l = 0 ↔ V3 r := by
  obtain ⟨x, nm, l⟩ := r
  simp only [V3] at *
  rw [chk_exp, ← toList_nil]
  by_cases hk : 1 ≤ x.k ∧ x.k ≤ 7
  · obtain h | h | h | h | h | h | h : x.k = 1 ∨ x.k = 2 ∨ x.k = 3 ∨ x.k = 4 ∨ x.k = 5 ∨ x.k = 6 ∨ x.k = 7 := by omega
    all_goals
      simp [tagE, Nums.row, tagR, tagRs, fldE, zeroT, Nums.tag, Nums.lo, Nums.hi, Nums.old, datE, hv, h]
      intro _
      constructor <;> (intro hh; simp [hh])
  · constructor
    · intro h; exact absurd h.2.1 hk
    · rintro ⟨_, _, _, h | h | h | h | h⟩ <;> omega
/-- what Up of a good record to version 3 is -/
theorem up3 (r : Rec) (hok : ok r.l) (h : (upP 3 r).1 = 0) : V3 (upP 3 r).2 ∧ (upP 3 r).2.x.v = 3 ∧ (upP 3 r).2.x.k = r.x.k ∧ (upP 3 r).2.x.s = r.x.s := by
  obtain ⟨h1, _, _, h2, h3⟩ := up_zero h
  rw [h3]
  obtain ⟨a, b, c, d, _⟩ := up_back r 3 hok h1 h2 (by omega)
  exact ⟨(v3_iff _ b).1 a, b, d, c⟩
end Go.Proofs.YtdnackjakfiffaaGreatDoor

/-
  Saga, pure: what Check takes, spelt out; what Apply answers, Check takes.
-/
namespace Go.Proofs.YtdnackjakfiffaaGreatDoor
open Go Go.RowKit
open Wb

/-- what holds of every saga -/
def GdB (S : Sg) : Prop := (Text.Tx.nmA S.nm).1 = 0 ∧ (1 ≤ S.x.id ∧ S.x.id ≤ 9223372036854775807) ∧ (1 ≤ S.x.cnt ∧ S.x.cnt ≤ 32) ∧ (0 ≤ S.x.piv ∧ S.x.piv ≤ S.x.cnt) ∧ (0 ≤ S.x.beg ∧ S.x.beg ≤ 9223372036854775807) ∧ (0 ≤ S.x.la ∧ S.x.la ≤ 9223372036854775807) ∧ (0 ≤ S.x.tr ∧ S.x.tr ≤ 1000) ∧ S.inp.length ≤ 16384 ∧ S.fail.length ≤ 16384 ∧ shortP S.outs = true ∧ shortP S.und = true
/-- running -/
def Gd1 (S : Sg) : Prop := S.x.ph = 1 ∧ S.x.fs = 0 ∧ S.x.fc = 0 ∧ S.fail = [] ∧ S.und = [] ∧ 0 ≤ S.x.nx ∧ S.x.nx ≤ S.x.cnt ∧ (S.outs.length : Int) = S.x.nx ∧ (S.x.nx = S.x.cnt → S.x.fl = false ∧ S.x.tr = 0) ∧ (S.x.fl = true → S.x.tr ≠ 0) ∧ (S.x.nx = 0 → S.x.tr = 0 → S.x.la = S.x.beg)
/-- whole -/
def Gd3 (S : Sg) : Prop := S.x.ph = 3 ∧ S.x.fs = 0 ∧ S.x.fc = 0 ∧ S.fail = [] ∧ S.und = [] ∧ S.x.nx = S.x.cnt ∧ (S.outs.length : Int) = S.x.nx ∧ S.x.fl = false ∧ S.x.tr = 0
/-- undoing, undone -/
def GdU (S : Sg) : Prop := S.x.fs = (S.outs.length : Int) ∧ S.x.fs < S.x.cnt ∧ (S.x.piv = 0 ∨ S.x.fs < S.x.piv) ∧ 0 ≤ S.x.nx ∧ S.x.nx ≤ S.x.fs ∧ (S.und.length : Int) = S.x.fs - S.x.nx ∧ (S.x.nx = 0 → S.x.fl = false ∧ S.x.tr = 0) ∧ (S.x.fl = true → S.x.tr ≠ 0)
def Gd (S : Sg) : Prop := GdB S ∧ (Gd1 S ∨ Gd3 S ∨ (S.x.ph = 2 ∧ GdU S) ∨ (S.x.ph = 4 ∧ S.x.nx = 0 ∧ GdU S))
theorem win_iff (n lo hi : Int) : win n lo hi = true ↔ lo ≤ n ∧ n ≤ hi := by simp [win]
theorem short1 (l : List Nat) : shortP [l] = true ↔ l.length ≤ 16384 := by simp [shortP]
theorem bnd_iff (S : Sg) : bnd S = true ↔ GdB S ∧ (1 ≤ S.x.ph ∧ S.x.ph ≤ 4) := by
  unfold bnd GdB
  simp only [Bool.and_eq_true, win_iff, short1, decide_eq_true_eq]
  constructor
  · rintro ⟨⟨⟨⟨⟨⟨⟨⟨⟨⟨⟨a, b⟩, c⟩, d⟩, e⟩, f⟩, g⟩, h⟩, i⟩, j⟩, k⟩, l⟩
    exact ⟨⟨a, b, c, d, e, f, h, i, j, k, l⟩, g⟩
  · rintro ⟨⟨a, b, c, d, e, f, h, i, j, k, l⟩, g⟩
    exact ⟨⟨⟨⟨⟨⟨⟨⟨⟨⟨⟨a, b⟩, c⟩, d⟩, e⟩, f⟩, g⟩, h⟩, i⟩, j⟩, k⟩, l⟩
theorem chkS_iff (S : Sg) : chkS S = true ↔ Gd S := by
  unfold chkS Gd
  rw [Bool.and_eq_true, Bool.and_eq_true, bnd_iff]
  by_cases hp : 1 ≤ S.x.ph ∧ S.x.ph ≤ 4
  · obtain h | h | h | h : S.x.ph = 1 ∨ S.x.ph = 2 ∨ S.x.ph = 3 ∨ S.x.ph = 4 := by omega
    all_goals
      simp only [Gd1, Gd3, GdU, SN.settled, SN.fwd, SN.ended, SN.atEnd, SN.behind, wentOn, wentBack, h, and_assoc, and_congr_right_iff]
      intro hb
      obtain ⟨_, _, hc, hv, _, _, ht, _⟩ := hb
      cases hf : S.x.fl
      all_goals
        simp [win]
        try simp only [← List.length_eq_zero_iff]
        try omega
  · constructor
    · rintro ⟨⟨⟨_, h⟩, _⟩, _⟩; exact absurd h hp
    · rintro ⟨_, ⟨h, _⟩ | ⟨h, _⟩ | ⟨h, _⟩ | ⟨h, _⟩⟩ <;> omega
theorem lab_zero {s : ByteArray} (h : lab s = 0) : (Text.Tx.nmA s).1 = 0 := by
  unfold lab at h
  split at h
  · assumption
  · simp at h
theorem shortP_snoc (ls : List (List Nat)) (l : List Nat) (h : shortP ls = true) (hl : l.length ≤ 16384) : shortP (ls ++ [l]) = true := by
  unfold shortP at *
  rw [List.all_append, h]
  simp [hl]
/-- what a record that may come finds -/
theorem ref_zero {x : SN} {r : Nums} (h : refP x r = 0) : r.s = x.id ∧ r.k ≠ 1 ∧ x.ended = false ∧ x.inPh r.k = true ∧ ¬ (r.l = 1 ∧ x.ph = 2) ∧ lands r.k = x.fl ∧ x.onTurn r.k r.p = true ∧ (r.t = 0 ∨ r.t = x.nextTry) ∧ ¬ (r.l = 1 ∧ x.behind r.p = true) ∧ (r.k = 7 → r.c = 0 ∨ r.c = x.outcome) := by
  unfold refP at h
  by_cases h1 : r.s = x.id
  · rw [if_neg (by simpa using h1)] at h
    by_cases h2 : r.k = 1
    · rw [if_pos h2] at h; simp at h
    · rw [if_neg h2] at h
      cases h3 : x.ended
      · rw [h3] at h
        simp only [Bool.false_eq_true, if_false] at h
        split at h
        · simp at h
        · rename_i h4
          split at h
          · simp at h
          · rename_i h5
            split at h
            · simp at h
            · rename_i h6
              split at h
              · simp at h
              · rename_i h7
                split at h
                · simp at h
                · rename_i h8
                  split at h
                  · simp at h
                  · rename_i h9
                    simp at h4 h5 h6 h7 h8 h9
                    refine ⟨h1, h2, rfl, h4.1, by simpa using h4.2, h5, h6, by omega, by simpa using h8, fun hk => ?_⟩
                    have := h9 hk
                    omega
      · rw [h3] at h; simp at h
  · rw [if_pos h1] at h; simp at h
theorem chkS_deed (S : Sg) (r : Rec) (h : chkS S = true) (hv : V3 r) (h0 : refP S.x r.x = 0) : chkS (deedS S r) = true := by
  rw [chkS_iff] at *
  obtain ⟨hs, hk, he, hp, hl, hf, ht, hy, hb, _⟩ := ref_zero h0
  obtain ⟨hB, hG⟩ := h
  obtain ⟨b1, b2, b3, b4, b5, b6, b7, b8, b9, b10, b11⟩ := hB
  obtain ⟨v1, v2, v3, vk⟩ := hv
  simp only [SN.ended, SN.inPh, SN.onTurn, SN.atEnd, SN.turn, SN.fwd, SN.behind] at he hp ht hb
  rcases vk with ⟨k, _⟩ | ⟨k, q⟩ | ⟨k, q⟩ | ⟨k, q⟩ | ⟨k, q⟩
  · exact absurd k hk
  · have hd : deedS S r = { S with x := { S.x with la := r.x.a, fl := true, tr := r.x.t } } := by unfold deedS; rw [if_pos k]
    rw [hd]
    refine ⟨⟨b1, b2, b3, b4, b5, ⟨v2, v3⟩, ⟨by dsimp only; omega, by dsimp only; omega⟩, b8, b9, b10, b11⟩, ?_⟩
    rcases hG with ⟨g, c1, c2, c3, c4, c5, c6, c7, c8, c9, c10⟩ | ⟨g, _⟩ | ⟨g, c1, c2, c3, c4, c5, c6, c7, c8⟩ | ⟨g, _⟩
    · rcases k with k | k
      · simp [g, k] at ht
        exact .inl ⟨g, c1, c2, c3, c4, c5, c6, c7, fun e => absurd e ht.1, fun _ => by dsimp only; omega, fun _ e => by dsimp only at e; omega⟩
      · simp [g, k, kph] at hp
    · simp [g] at he
    · rcases k with k | k
      · simp [g, k, kph] at hp
      · simp [g, k] at ht
        exact .inr (.inr (.inl ⟨g, c1, c2, c3, c4, c5, c6, fun e => absurd e ht.1, fun _ => by dsimp only; omega⟩))
    · simp [g] at he
  · rcases k with k | k
    · have hd : deedS S r = { S with x := { S.x with la := r.x.a, fl := false, tr := 0, nx := S.x.nx + 1 }, outs := S.outs ++ [r.l] } := by unfold deedS; rw [if_neg (by omega), if_pos k]
      rw [hd]
      refine ⟨⟨b1, b2, b3, b4, b5, ⟨v2, v3⟩, ⟨by dsimp only; omega, by dsimp only; omega⟩, b8, b9, shortP_snoc _ _ b10 q.2.2.2.2.2.2.2.2, b11⟩, ?_⟩
      rcases hG with ⟨g, c1, c2, c3, c4, c5, c6, c7, c8, c9, c10⟩ | ⟨g, _⟩ | ⟨g, _⟩ | ⟨g, _⟩
      · simp [g, k] at ht
        exact .inl ⟨g, c1, c2, c3, c4, by dsimp only; omega, by dsimp only; omega, by dsimp only; rw [List.length_append, List.length_singleton]; omega, fun _ => ⟨rfl, rfl⟩, fun e => by simp at e, fun e => by dsimp only at e; omega⟩
      · simp [g] at he
      · simp [g, k, kph] at hp
      · simp [g] at he
    · have hd : deedS S r = { S with x := { S.x with la := r.x.a, fl := false, tr := 0, nx := S.x.nx - 1 }, und := S.und ++ [r.l] } := by unfold deedS; rw [if_neg (by omega), if_neg (by omega), if_neg (by omega), if_pos k]
      rw [hd]
      refine ⟨⟨b1, b2, b3, b4, b5, ⟨v2, v3⟩, ⟨by dsimp only; omega, by dsimp only; omega⟩, b8, b9, b10, shortP_snoc _ _ b11 q.2.2.2.2.2.2.2.2⟩, ?_⟩
      rcases hG with ⟨g, _⟩ | ⟨g, _⟩ | ⟨g, c1, c2, c3, c4, c5, c6, c7, c8⟩ | ⟨g, _⟩
      · simp [g, k, kph] at hp
      · simp [g] at he
      · simp [g, k] at ht
        exact .inr (.inr (.inl ⟨g, c1, c2, c3, by dsimp only; omega, by dsimp only; omega, by dsimp only; rw [List.length_append, List.length_singleton]; omega, fun _ => ⟨rfl, rfl⟩, fun e => by simp at e⟩))
      · simp [g] at he
  · by_cases hl0 : r.x.l = 0
    · have hd : deedS S r = { S with x := { S.x with la := r.x.a, fl := false } } := by unfold deedS; rw [if_neg (by omega), if_neg (by omega), if_pos k, if_pos hl0]
      have hfl : S.x.fl = true := by rw [← hf]; simp [lands, k]
      rw [hd]
      refine ⟨⟨b1, b2, b3, b4, b5, ⟨v2, v3⟩, b7, b8, b9, b10, b11⟩, ?_⟩
      rcases hG with ⟨g, c1, c2, c3, c4, c5, c6, c7, c8, c9, c10⟩ | ⟨g, _⟩ | ⟨g, c1, c2, c3, c4, c5, c6, c7, c8⟩ | ⟨g, _⟩
      · exact .inl ⟨g, c1, c2, c3, c4, c5, c6, c7, fun e => ⟨rfl, (c8 e).2⟩, fun e => by simp at e, fun _ e => absurd e (c9 hfl)⟩
      · simp [g] at he
      · exact .inr (.inr (.inl ⟨g, c1, c2, c3, c4, c5, c6, fun e => ⟨rfl, (c7 e).2⟩, fun e => by simp at e⟩))
      · simp [g] at he
    · have hl1 : r.x.l = 1 := by omega
      have hd : deedS S r = { S with x := { S.x with la := r.x.a, fl := false, tr := 0, ph := 2, fs := r.x.p, fc := r.x.c }, fail := r.l } := by unfold deedS; rw [if_neg (by omega), if_neg (by omega), if_pos k, if_neg hl0]
      rw [hd]
      refine ⟨⟨b1, b2, b3, b4, b5, ⟨v2, v3⟩, ⟨by dsimp only; omega, by dsimp only; omega⟩, b8, q.2.2.2.2.2.2.2.2.2.2, b10, b11⟩, ?_⟩
      rcases hG with ⟨g, c1, c2, c3, c4, c5, c6, c7, c8, c9, c10⟩ | ⟨g, _⟩ | ⟨g, _⟩ | ⟨g, _⟩
      · simp [g, k] at ht
        simp [hl1] at hb
        refine .inr (.inr (.inl ⟨rfl, by dsimp only; omega, by dsimp only; omega, by dsimp only; omega, c5, by dsimp only; omega, ?_, fun _ => ⟨rfl, rfl⟩, fun e => by simp at e⟩))
        dsimp only
        rw [c4]
        simp
        omega
      · simp [g] at he
      · exact absurd ⟨hl1, g⟩ hl
      · simp [g] at he
  · have hd : deedS S r = { S with x := { S.x with la := r.x.a, ph := if S.x.ph = 1 then 3 else 4 } } := by unfold deedS; rw [if_neg (by omega), if_neg (by omega), if_neg (by omega), if_neg (by omega)]
    rw [hd]
    refine ⟨⟨b1, b2, b3, b4, b5, ⟨v2, v3⟩, b7, b8, b9, b10, b11⟩, ?_⟩
    rcases hG with ⟨g, c1, c2, c3, c4, c5, c6, c7, c8, c9, c10⟩ | ⟨g, _⟩ | ⟨g, c1, c2, c3, c4, c5, c6, c7, c8⟩ | ⟨g, _⟩
    · simp [g, k] at ht
      exact .inr (.inl ⟨by dsimp only; rw [if_pos g], c1, c2, c3, c4, ht, c7, (c8 ht).1, (c8 ht).2⟩)
    · simp [g] at he
    · simp [g, k] at ht
      exact .inr (.inr (.inr ⟨by dsimp only; rw [if_neg (by omega)], ht, c1, c2, c3, c4, c5, c6, c7, c8⟩))
    · simp [g] at he
end Go.Proofs.YtdnackjakfiffaaGreatDoor

/-
  Saga, pure: which kinds may come; what a saga's steps are.
-/
namespace Go.Proofs.YtdnackjakfiffaaGreatDoor
open Go Go.RowKit
open Wb

/-- what may come when -/
theorem allowed_eq (S : Sg) (h : chkS S = true) (he : S.x.ended = false) :
    allowedP S = if S.x.atEnd then [7] else if S.x.ph = 1 then (if S.x.fl then [3, 4] else [2]) else (if S.x.fl then [4, 6] else [5]) := by
  have hG := (chkS_iff S).1 h
  obtain ⟨_, hG⟩ := hG
  unfold allowedP
  rw [if_neg (by simp [h, he])]
  unfold SN.ended at he
  have h12 : S.x.ph = 1 ∨ S.x.ph = 2 := by
    rcases hG with ⟨g, _⟩ | ⟨g, _⟩ | ⟨g, _⟩ | ⟨g, _⟩
    · exact .inl g
    · simp [g] at he
    · exact .inr g
    · simp [g] at he
  have hfl : S.x.atEnd = true → S.x.fl = false := by
    intro ha
    unfold SN.atEnd SN.fwd at ha
    rcases hG with ⟨g, c1, c2, c3, c4, c5, c6, c7, c8, _⟩ | ⟨g, _⟩ | ⟨g, c1, c2, c3, c4, c5, c6, c7, _⟩ | ⟨g, _⟩
    · simp [g] at ha; exact (c8 ha).1
    · simp [g] at he
    · simp [g] at ha; exact (c7 ha).1
    · simp [g] at he
  cases ha : S.x.atEnd with
  | true =>
    rw [ha] at hfl
    have := hfl rfl
    rcases h12 with g | g <;> simp [SN.may, SN.inPh, kph, lands, ha, this, g, List.filter]
  | false =>
    rcases h12 with g | g <;> cases hf : S.x.fl <;> simp [SN.may, SN.inPh, kph, lands, ha, hf, g, List.filter]
theorem allowed_small (S : Sg) : (allowedP S).length ≤ 2 ∧ (1 : Int) ∉ allowedP S := by
  by_cases h : chkS S = true
  · cases he : S.x.ended with
    | true => unfold allowedP; rw [if_pos (.inr he)]; simp
    | false =>
      rw [allowed_eq S h he]
      cases S.x.atEnd <;> by_cases hp : S.x.ph = 1 <;> cases S.x.fl <;> simp [hp]
  · unfold allowedP
    rw [if_pos (.inl (by simpa using h))]
    simp
/-- what may come is told -/
theorem ref_may (S : Sg) (r : Rec) (h : chkS S = true) (hv : V3 r) (h0 : refP S.x r.x = 0) : r.x.k ∈ allowedP S := by
  obtain ⟨hs, hk, he, hp, hl, hf, ht, hy, hb, _⟩ := ref_zero h0
  unfold allowedP
  rw [if_neg (by simp [h, he]), List.mem_filter]
  obtain ⟨v1, v2, v3, vk⟩ := hv
  have hk27 : r.x.k = 2 ∨ r.x.k = 3 ∨ r.x.k = 4 ∨ r.x.k = 5 ∨ r.x.k = 6 ∨ r.x.k = 7 := by omega
  refine ⟨by simpa using hk27, ?_⟩
  unfold SN.may
  rw [hp, hf]
  unfold SN.onTurn at ht
  by_cases k7 : r.x.k = 7
  · rw [if_pos k7] at ht
    simp [k7, ht]
  · rw [if_neg k7] at ht
    simp at ht
    simp [ht.1, k7]
theorem ended_deed (S : Sg) (r : Rec) (hv : V3 r) (h0 : refP S.x r.x = 0) : (deedS S r).x.ended = decide (r.x.k = 7) := by
  obtain ⟨hs, hk, he, hp, hl, hf, ht, hy, hb, _⟩ := ref_zero h0
  obtain ⟨v1, v2, v3, vk⟩ := hv
  unfold SN.ended at *
  have hk27 : (r.x.k = 2 ∨ r.x.k = 5) ∨ r.x.k = 3 ∨ r.x.k = 4 ∨ r.x.k = 6 ∨ r.x.k = 7 := by omega
  unfold deedS
  rcases hk27 with k | k | k | k | k
  · rw [if_pos k]
    simp at he
    have k7 : r.x.k ≠ 7 := by omega
    simp [he, k7]
  · simp at he
    simp [k, he]
  · by_cases hl0 : r.x.l = 0
    · simp at he
      simp [k, hl0, he]
    · simp [k, hl0]
  · simp at he
    simp [k, he]
  · simp [k]
    by_cases hp1 : S.x.ph = 1 <;> simp [hp1]
/-- how many steps were done, how many undone, behind one more record -/
theorem steps_deed (S : Sg) (r : Rec) (h : chkS S = true) (hv : V3 r) (h0 : refP S.x r.x = 0) :
    (deedS S r).x.id = S.x.id ∧ (deedS S r).x.cnt = S.x.cnt ∧ (deedS S r).x.piv = S.x.piv ∧ (deedS S r).x.beg = S.x.beg ∧ (deedS S r).nm = S.nm ∧
    (r.x.k = 3 → S.und = [] ∧ r.x.p = (S.outs.length : Int) ∧ (S.outs.length : Int) < S.x.cnt ∧ (deedS S r).outs.length = S.outs.length + 1 ∧ (deedS S r).und = S.und) ∧
    (r.x.k = 6 → r.x.p = (S.outs.length : Int) - 1 - (S.und.length : Int) ∧ 0 ≤ r.x.p ∧ (S.x.piv = 0 ∨ (S.outs.length : Int) < S.x.piv) ∧ (deedS S r).outs = S.outs ∧ (deedS S r).und.length = S.und.length + 1) ∧
    (r.x.k ≠ 3 → r.x.k ≠ 6 → (deedS S r).outs = S.outs ∧ (deedS S r).und = S.und) := by
  obtain ⟨hs, hk, he, hp, hl, hf, ht, hy, hb, _⟩ := ref_zero h0
  obtain ⟨hB, hG⟩ := (chkS_iff S).1 h
  obtain ⟨v1, v2, v3, vk⟩ := hv
  simp only [SN.ended, SN.inPh, SN.onTurn, SN.atEnd, SN.turn, SN.fwd, SN.behind] at he hp ht hb
  have hk27 : (r.x.k = 2 ∨ r.x.k = 5) ∨ r.x.k = 3 ∨ r.x.k = 4 ∨ r.x.k = 6 ∨ r.x.k = 7 := by omega
  unfold deedS
  rcases hk27 with k | k | k | k | k
  · rw [if_pos k]
    exact ⟨rfl, rfl, rfl, rfl, rfl, fun e => by omega, fun e => by omega, fun _ _ => ⟨rfl, rfl⟩⟩
  · rw [if_neg (by omega), if_pos k]
    rcases hG with ⟨g, c1, c2, c3, c4, c5, c6, c7, c8, c9, c10⟩ | ⟨g, _⟩ | ⟨g, _⟩ | ⟨g, _⟩
    · simp [g, k] at ht
      exact ⟨rfl, rfl, rfl, rfl, rfl, fun _ => ⟨c4, by omega, by omega, by simp, rfl⟩, fun e => by omega, fun e => absurd k e⟩
    · simp [g] at he
    · simp [g, k, kph] at hp
    · simp [g] at he
  · rw [if_neg (by omega), if_neg (by omega), if_pos k]
    by_cases hl0 : r.x.l = 0
    · rw [if_pos hl0]
      exact ⟨rfl, rfl, rfl, rfl, rfl, fun e => by omega, fun e => by omega, fun _ _ => ⟨rfl, rfl⟩⟩
    · rw [if_neg hl0]
      exact ⟨rfl, rfl, rfl, rfl, rfl, fun e => by omega, fun e => by omega, fun _ _ => ⟨rfl, rfl⟩⟩
  · rw [if_neg (by omega), if_neg (by omega), if_neg (by omega), if_pos k]
    rcases hG with ⟨g, _⟩ | ⟨g, _⟩ | ⟨g, c1, c2, c3, c4, c5, c6, c7, c8⟩ | ⟨g, _⟩
    · simp [g, k, kph] at hp
    · simp [g] at he
    · simp [g, k] at ht
      exact ⟨rfl, rfl, rfl, rfl, rfl, fun e => by omega, fun _ => ⟨by omega, by omega, by omega, rfl, by simp⟩, fun _ e => absurd k e⟩
    · simp [g] at he
  · rw [if_neg (by omega), if_neg (by omega), if_neg (by omega), if_neg (by omega)]
    exact ⟨rfl, rfl, rfl, rfl, rfl, fun e => by omega, fun e => by omega, fun _ _ => ⟨rfl, rfl⟩⟩
/-- an ended saga is whole or undone -/
theorem ended_whole (S : Sg) (h : chkS S = true) (he : S.x.ended = true) : (S.x.ph = 3 ∧ (S.outs.length : Int) = S.x.cnt ∧ S.und = []) ∨ (S.x.ph = 4 ∧ S.outs.length = S.und.length) := by
  obtain ⟨hB, hG⟩ := (chkS_iff S).1 h
  unfold SN.ended at he
  rcases hG with ⟨g, _⟩ | ⟨g, c1, c2, c3, c4, c5, c6, _⟩ | ⟨g, _⟩ | ⟨g, g2, c1, c2, c3, c4, c5, c6, _⟩
  · simp [g] at he
  · exact .inl ⟨g, by omega, c4⟩
  · simp [g] at he
  · exact .inr ⟨g, by omega⟩
/-- the records that succeed -/
def happyK (S : Sg) : Int := if S.x.atEnd then 7 else if S.x.ph = 1 then (if S.x.fl then 3 else 2) else (if S.x.fl then 6 else 5)
def happyP (S : Sg) : Rec := ⟨⟨3, happyK S, S.x.id, if happyK S = 7 then 0 else S.x.turn, if happyK S = 2 ∨ happyK S = 5 then S.x.nextTry else 0, 9, 0, 0, 0, 0⟩, ⟨#[]⟩, []⟩
/-- how many of them are left -/
def left (S : Sg) : Nat := (if S.x.ph = 1 then 2 * (S.x.cnt - S.x.nx) else 2 * S.x.nx).toNat + (if S.x.fl then 0 else 1)
theorem happy_good (S : Sg) (h : chkS S = true) (he : S.x.ended = false) : V3 (happyP S) ∧ refP S.x (happyP S).x = 0 ∧ left S ≤ 2 * S.x.cnt.toNat + 1 ∧ 0 < left S ∧ (left S = 1 ↔ happyK S = 7) ∧ (happyK S ≠ 7 → left (deedS S (happyP S)) + 1 = left S ∧ (deedS S (happyP S)).x.ph = S.x.ph) ∧ (happyK S = 7 → (deedS S (happyP S)).x.ph = S.x.ph + 2) := by
  obtain ⟨⟨b1, b2, b3, b4, b5, b6, b7, b8, b9, b10, b11⟩, hG⟩ := (chkS_iff S).1 h
  unfold SN.ended at he
  rcases hG with ⟨g, c1, c2, c3, c4, c5, c6, c7, c8, c9, c10⟩ | ⟨g, _⟩ | ⟨g, c1, c2, c3, c4, c5, c6, c7, c8⟩ | ⟨g, _⟩
  · by_cases ha : S.x.nx = S.x.cnt
    · obtain ⟨f1, f2⟩ := c8 ha
      have hk : happyK S = 7 := by simp [happyK, SN.atEnd, SN.fwd, g, ha]
      have hr : happyP S = ⟨⟨3, 7, S.x.id, 0, 0, 9, 0, 0, 0, 0⟩, ⟨#[]⟩, []⟩ := by unfold happyP; rw [hk]; simp
      rw [hr]
      refine ⟨?_, ?_, ?_, ?_, ?_, ?_, ?_⟩
      · simp [V3]; omega
      · simp [refP, SN.ended, SN.inPh, kph, lands, SN.onTurn, SN.atEnd, SN.fwd, SN.behind, g, ha, f1]
      · simp [left, g, f1]; omega
      · simp [left, g, f1]
      · simp [left, g, f1, hk]; omega
      · intro e; exact absurd hk e
      · intro _; simp [deedS, g]
    · cases hf : S.x.fl with
      | true =>
        have hk : happyK S = 3 := by simp [happyK, SN.atEnd, SN.fwd, g, ha, hf]
        have hr : happyP S = ⟨⟨3, 3, S.x.id, S.x.nx, 0, 9, 0, 0, 0, 0⟩, ⟨#[]⟩, []⟩ := by unfold happyP; rw [hk]; simp [SN.turn, SN.fwd, g]
        rw [hr]
        refine ⟨?_, ?_, ?_, ?_, ?_, ?_, ?_⟩
        · simp [V3]; omega
        · simp [refP, SN.ended, SN.inPh, kph, lands, SN.onTurn, SN.atEnd, SN.fwd, SN.behind, SN.turn, g, ha, hf]
        · simp [left, g, hf]; omega
        · simp [left, g, hf]; omega
        · simp [left, g, hf, hk]; omega
        · intro _; simp [left, deedS, g, hf]; omega
        · intro e; omega
      | false =>
        have hk : happyK S = 2 := by simp [happyK, SN.atEnd, SN.fwd, g, ha, hf]
        have hr : happyP S = ⟨⟨3, 2, S.x.id, S.x.nx, S.x.nextTry, 9, 0, 0, 0, 0⟩, ⟨#[]⟩, []⟩ := by unfold happyP; rw [hk]; simp [SN.turn, SN.fwd, g]
        rw [hr]
        refine ⟨?_, ?_, ?_, ?_, ?_, ?_, ?_⟩
        · simp [V3, SN.nextTry]; omega
        · simp [refP, SN.ended, SN.inPh, kph, lands, SN.onTurn, SN.atEnd, SN.fwd, SN.behind, SN.turn, g, ha, hf]
        · simp [left, g, hf]; omega
        · simp [left, g, hf]
        · simp [left, g, hf, hk]; omega
        · intro _; simp [left, deedS, g, hf]
        · intro e; omega
  · simp [g] at he
  · by_cases ha : S.x.nx = 0
    · obtain ⟨f1, f2⟩ := c7 ha
      have hk : happyK S = 7 := by simp [happyK, SN.atEnd, SN.fwd, g, ha]
      have hr : happyP S = ⟨⟨3, 7, S.x.id, 0, 0, 9, 0, 0, 0, 0⟩, ⟨#[]⟩, []⟩ := by unfold happyP; rw [hk]; simp
      rw [hr]
      refine ⟨?_, ?_, ?_, ?_, ?_, ?_, ?_⟩
      · simp [V3]; omega
      · simp [refP, SN.ended, SN.inPh, kph, lands, SN.onTurn, SN.atEnd, SN.fwd, SN.behind, g, ha, f1]
      · simp [left, g, f1]; omega
      · simp [left, g, f1]
      · simp [left, g, f1, hk]; omega
      · intro e; exact absurd hk e
      · intro _; simp [deedS, g]
    · cases hf : S.x.fl with
      | true =>
        have hk : happyK S = 6 := by simp [happyK, SN.atEnd, SN.fwd, g, ha, hf]
        have hr : happyP S = ⟨⟨3, 6, S.x.id, S.x.nx - 1, 0, 9, 0, 0, 0, 0⟩, ⟨#[]⟩, []⟩ := by unfold happyP; rw [hk]; simp [SN.turn, SN.fwd, g]
        rw [hr]
        refine ⟨?_, ?_, ?_, ?_, ?_, ?_, ?_⟩
        · simp [V3]; omega
        · simp [refP, SN.ended, SN.inPh, kph, lands, SN.onTurn, SN.atEnd, SN.fwd, SN.behind, SN.turn, g, ha, hf]
        · simp [left, g, hf]; omega
        · simp [left, g, hf]; omega
        · simp [left, g, hf, hk]; omega
        · intro _; simp [left, deedS, g, hf]; omega
        · intro e; omega
      | false =>
        have hk : happyK S = 5 := by simp [happyK, SN.atEnd, SN.fwd, g, ha, hf]
        have hr : happyP S = ⟨⟨3, 5, S.x.id, S.x.nx - 1, S.x.nextTry, 9, 0, 0, 0, 0⟩, ⟨#[]⟩, []⟩ := by unfold happyP; rw [hk]; simp [SN.turn, SN.fwd, g]
        rw [hr]
        refine ⟨?_, ?_, ?_, ?_, ?_, ?_, ?_⟩
        · simp [V3, SN.nextTry]; omega
        · simp [refP, SN.ended, SN.inPh, kph, lands, SN.onTurn, SN.atEnd, SN.fwd, SN.behind, SN.turn, g, ha, hf]
        · simp [left, g, hf]; omega
        · simp [left, g, hf]
        · simp [left, g, hf, hk]; omega
        · intro _; simp [left, deedS, g, hf]
        · intro e; omega
  · simp [g] at he
end Go.Proofs.YtdnackjakfiffaaGreatDoor

/-
  Saga, pure: a saga's story, and that it leads to the saga.
-/
namespace Go.Proofs.YtdnackjakfiffaaGreatDoor
open Go Go.RowKit
open Wb

/-- the story's records -/
def stB (S : Sg) : Rec := ⟨⟨3, 1, S.x.id, 0, 0, S.x.beg, 0, 0, S.x.cnt, S.x.piv⟩, S.nm, S.inp⟩
def stR (S : Sg) (k p t l c : Int) (d : List Nat) : Rec := ⟨⟨3, k, S.x.id, p, t, S.x.la, l, c, 0, 0⟩, ⟨#[]⟩, d⟩
/-- steps that were done, from step i on -/
def outL (S : Sg) : Nat → List (List Nat) → List Rec
  | _, [] => []
  | i, o :: r => stR S 2 i 1 0 0 [] :: stR S 3 i 0 0 0 o :: outL S (i + 1) r
/-- steps that were undone, the next of them p -/
def undL (S : Sg) : Int → List (List Nat) → List Rec
  | _, [] => []
  | p, o :: r => stR S 5 p 1 0 0 [] :: stR S 6 p 0 0 0 o :: undL S (p - 1) r
/-- the tries m + 1 to m + n -/
def trL (S : Sg) (kk p : Int) : Nat → Nat → List Rec
  | _, 0 => []
  | m, n + 1 => stR S kk p ((m : Int) + 1) 0 0 [] :: ((if n ≠ 0 ∨ S.x.fl = false then [stR S 4 p 0 0 0 []] else []) ++ trL S kk p (m + 1) n)
def failL (S : Sg) : List Rec := if S.x.fwd then [] else stR S 2 S.x.fs 1 0 0 [] :: stR S 4 S.x.fs 0 1 S.x.fc S.fail :: undL S (S.x.fs - 1) S.und
def endL (S : Sg) : List Rec := if S.x.ended then [stR S 7 0 0 0 S.x.outcome []] else []
def trK (S : Sg) : Int := if S.x.fwd then 2 else 5
def storyT (S : Sg) : List Rec := outL S 0 S.outs ++ (failL S ++ (trL S (trK S) S.x.turn 0 S.x.tr.toNat ++ endL S))
def storyP (S : Sg) : List Rec := stB S :: storyT S
/-- records that may come, one behind the other, and where they lead -/
def Leads : Sg → List Rec → Sg → Prop
  | S, [], T => S = T
  | S, r :: rs, T => V3 r ∧ r.x.v = 3 ∧ refP S.x r.x = 0 ∧ Leads (deedS S r) rs T
theorem Leads.cat : ∀ (a : List Rec) {b : List Rec} {S T U : Sg}, Leads S a T → Leads T b U → Leads S (a ++ b) U
  | [], _, _, _, _, h, h2 => by cases h; exact h2
  | _ :: a, _, _, _, _, ⟨h1, h2, h3, h4⟩, h5 => ⟨h1, h2, h3, Leads.cat a h4 h5⟩
/-- what every state on the way shares -/
structure Way (S : Sg) : Prop where
  id : 1 ≤ S.x.id
  la : 0 ≤ S.x.la ∧ S.x.la ≤ 9223372036854775807
  cnt : 1 ≤ S.x.cnt ∧ S.x.cnt ≤ 32
/-- the state with i steps done -/
def stO (S : Sg) (a : Int) (i : Nat) : Sg := ⟨⟨S.x.id, S.x.cnt, S.x.piv, S.x.beg, a, 1, i, false, 0, 0, 0⟩, S.nm, S.inp, S.outs.take i, [], []⟩
theorem outs_lead (S : Sg) (hw : Way S) (hs : shortP S.outs = true) (hc : (S.outs.length : Int) ≤ S.x.cnt) : ∀ (r : List (List Nat)) (i : Nat) (a : Int), S.outs.drop i = r → i ≤ S.outs.length → Leads (stO S a i) (outL S i r) (stO S (if r = [] then a else S.x.la) S.outs.length)
  | [], i, a, h, hi => by
    have : S.outs.length ≤ i := List.drop_eq_nil_iff.1 h
    obtain rfl : i = S.outs.length := by omega
    simp [outL, Leads]
  | o :: r, i, a, h, hi => by
    have hlt : i < S.outs.length := by
      by_cases hh : i < S.outs.length
      · exact hh
      · rw [List.drop_eq_nil_of_le (by omega)] at h; simp at h
    have h2 : S.outs[i] = o ∧ S.outs.drop (i + 1) = r := by
      rw [List.drop_eq_getElem_cons hlt, List.cons.injEq] at h
      exact h
    have ho : o.length ≤ 16384 := by
      have := List.all_eq_true.1 hs o (by rw [← h2.1]; exact List.getElem_mem hlt)
      simpa using this
    have ih := outs_lead S hw hs hc r (i + 1) S.x.la h2.2 (by omega)
    have hne : ¬ ((i : Int) = S.x.cnt) := by omega
    have hid := hw.id
    have hla := hw.la
    have hcn := hw.cnt
    have e1 : deedS (deedS (stO S a i) (stR S 2 i 1 0 0 [])) (stR S 3 i 0 0 0 o) = stO S S.x.la (i + 1) := by
      have e3 : S.outs.take (i + 1) = S.outs.take i ++ [o] := by rw [List.take_succ_eq_append_getElem hlt, h2.1]
      simp [deedS, stO, stR, e3]
    refine ⟨?_, rfl, ?_, ?_, rfl, ?_, ?_⟩
    · simp [V3, stR]; omega
    · simp [refP, stO, stR, SN.ended, SN.inPh, kph, lands, SN.onTurn, SN.atEnd, SN.fwd, SN.turn, SN.nextTry, hne]; omega
    · simp [V3, stR]; omega
    · simp [refP, deedS, stO, stR, SN.ended, SN.inPh, kph, lands, SN.onTurn, SN.atEnd, SN.fwd, SN.turn, hne]
    · rw [e1]
      rw [if_neg (by simp)]
      have e4 : (if r = [] then S.x.la else S.x.la) = S.x.la := by split <;> rfl
      rw [e4] at ih
      exact ih
/-- the state with steps undone: nx left -/
def stU (S : Sg) (a nx : Int) (j : Nat) : Sg := ⟨⟨S.x.id, S.x.cnt, S.x.piv, S.x.beg, a, 2, nx, false, 0, S.x.fs, S.x.fc⟩, S.nm, S.inp, S.outs, S.und.take j, S.fail⟩
theorem unds_lead (S : Sg) (hw : Way S) (hs : shortP S.und = true) (hf : S.x.fs < S.x.cnt) (hu : (S.und.length : Int) ≤ S.x.fs) : ∀ (r : List (List Nat)) (j : Nat), S.und.drop j = r → j ≤ S.und.length → Leads (stU S S.x.la (S.x.fs - j) j) (undL S (S.x.fs - 1 - j) r) (stU S S.x.la (S.x.fs - S.und.length) S.und.length)
  | [], j, h, hj => by
    have : S.und.length ≤ j := List.drop_eq_nil_iff.1 h
    obtain rfl : j = S.und.length := by omega
    simp [undL, Leads]
  | o :: r, j, h, hj => by
    have hlt : j < S.und.length := by
      by_cases hh : j < S.und.length
      · exact hh
      · rw [List.drop_eq_nil_of_le (by omega)] at h; simp at h
    have h2 : S.und[j] = o ∧ S.und.drop (j + 1) = r := by
      rw [List.drop_eq_getElem_cons hlt, List.cons.injEq] at h
      exact h
    have ho : o.length ≤ 16384 := by
      have := List.all_eq_true.1 hs o (by rw [← h2.1]; exact List.getElem_mem hlt)
      simpa using this
    have ih := unds_lead S hw hs hf hu r (j + 1) h2.2 (by omega)
    have hid := hw.id
    have hla := hw.la
    have hcn := hw.cnt
    obtain ⟨p, hp⟩ : ∃ p : Int, S.x.fs - 1 - j = p := ⟨_, rfl⟩
    have hp2 : S.x.fs - (j : Int) = p + 1 := by omega
    have hp3 : S.x.fs - ((j + 1 : Nat) : Int) = p := by omega
    have hp4 : S.x.fs - 1 - ((j + 1 : Nat) : Int) = p - 1 := by omega
    have hp0 : 0 ≤ p ∧ p ≤ 31 := by omega
    rw [hp3, hp4] at ih
    rw [hp, hp2]
    have hne : ¬ (p + 1 = 0) := by omega
    have e1 : deedS (deedS (stU S S.x.la (p + 1) j) (stR S 5 p 1 0 0 [])) (stR S 6 p 0 0 0 o) = stU S S.x.la p (j + 1) := by
      have e3 : S.und.take (j + 1) = S.und.take j ++ [o] := by rw [List.take_succ_eq_append_getElem hlt, h2.1]
      simp [deedS, stU, stR, e3]
    refine ⟨?_, rfl, ?_, ?_, rfl, ?_, ?_⟩
    · simp [V3, stR]; omega
    · simp [refP, stU, stR, SN.ended, SN.inPh, kph, lands, SN.onTurn, SN.atEnd, SN.fwd, SN.turn, SN.nextTry, hne]; omega
    · simp [V3, stR]; omega
    · simp [refP, deedS, stU, stR, SN.ended, SN.inPh, kph, lands, SN.onTurn, SN.atEnd, SN.fwd, SN.turn, hne]
    · rw [e1]; exact ih
theorem ref_ok {x : SN} {r : Nums} (h1 : r.s = x.id) (h2 : r.k ≠ 1) (h3 : x.ended = false) (h4 : x.inPh r.k = true) (h5 : r.l = 0) (h6 : lands r.k = x.fl) (h7 : x.onTurn r.k r.p = true) (h8 : r.t = 0 ∨ r.t = x.nextTry) (h9 : r.k ≠ 7) : refP x r = 0 := by
  unfold refP
  rw [if_neg (by simpa using h1), if_neg h2, if_neg (by simp [h3]), if_neg (by simp [h4, h5]), if_neg (by simp [h6]), if_neg (by simp [h7]), if_neg (by omega), if_neg (by simp [h5]), if_neg (by simp [h9])]
/-- the tries -/
theorem tries_lead (S : Sg) (hw : Way S) (kk p : Int) (hp : 0 ≤ p ∧ p ≤ 31) (T : Sg) (hT : T.x.id = S.x.id ∧ T.x.atEnd = false ∧ T.x.turn = p ∧ (kk = 2 ∧ T.x.ph = 1 ∨ kk = 5 ∧ T.x.ph = 2)) :
    ∀ (n m : Nat) (a : Int), m + n ≤ 1000 → Leads { T with x := { T.x with la := a, fl := false, tr := m } } (trL S kk p m n) { T with x := { T.x with la := if n = 0 then a else S.x.la, fl := if n = 0 then false else S.x.fl, tr := ((m + n : Nat) : Int) } }
  | 0, m, a, _ => by simp [trL, Leads]
  | n + 1, m, a, hmn => by
    obtain ⟨t1, t2, t3, t4⟩ := hT
    have hid := hw.id
    have hla := hw.la
    have he : T.x.ended = false := by unfold SN.ended; rcases t4 with ⟨_, h⟩ | ⟨_, h⟩ <;> simp [h]
    have q1 : ∀ (a : Int) (f : Bool) (t : Int), ({ T.x with la := a, fl := f, tr := t } : SN).ended = false := fun _ _ _ => he
    have q2 : ∀ (a : Int) (f : Bool) (t : Int), ({ T.x with la := a, fl := f, tr := t } : SN).atEnd = false := fun _ _ _ => t2
    have q3 : ∀ (a : Int) (f : Bool) (t : Int), ({ T.x with la := a, fl := f, tr := t } : SN).turn = p := fun _ _ _ => t3
    have hV : V3 (stR S kk p ((m : Int) + 1) 0 0 []) := by
      rcases t4 with ⟨rfl, _⟩ | ⟨rfl, _⟩ <;> (simp [V3, stR]; omega)
    have hR : refP { T.x with la := a, fl := false, tr := (m : Int) } (stR S kk p ((m : Int) + 1) 0 0 []).x = 0 := by
      refine ref_ok t1.symm ?_ (q1 _ _ _) ?_ rfl ?_ ?_ (.inr ?_) ?_
      · rcases t4 with ⟨rfl, _⟩ | ⟨rfl, _⟩ <;> simp [stR]
      · rcases t4 with ⟨rfl, h⟩ | ⟨rfl, h⟩ <;> simp [stR, SN.inPh, kph, h]
      · rcases t4 with ⟨rfl, _⟩ | ⟨rfl, _⟩ <;> rfl
      · have hk7 : ¬ (stR S kk p ((m : Int) + 1) 0 0 []).x.k = 7 := by rcases t4 with ⟨rfl, _⟩ | ⟨rfl, _⟩ <;> simp [stR]
        unfold SN.onTurn
        rw [if_neg hk7, q2, q3]
        simp [stR]
      · simp [stR, SN.nextTry]; omega
      · rcases t4 with ⟨rfl, _⟩ | ⟨rfl, _⟩ <;> simp [stR]
    have hD : deedS { T with x := { T.x with la := a, fl := false, tr := (m : Int) } } (stR S kk p ((m : Int) + 1) 0 0 []) = { T with x := { T.x with la := S.x.la, fl := true, tr := (m : Int) + 1 } } := by
      rcases t4 with ⟨rfl, _⟩ | ⟨rfl, _⟩ <;> simp [deedS, stR]
    refine ⟨hV, rfl, hR, ?_⟩
    rw [hD]
    by_cases hc : n ≠ 0 ∨ S.x.fl = false
    · rw [if_pos hc]
      have hV2 : V3 (stR S 4 p 0 0 0 []) := by simp [V3, stR]; omega
      have hR2 : refP { T.x with la := S.x.la, fl := true, tr := (m : Int) + 1 } (stR S 4 p 0 0 0 []).x = 0 := by
        refine ref_ok t1.symm (by simp [stR]) (q1 _ _ _) (by simp [stR, SN.inPh, kph]) rfl rfl ?_ (.inl rfl) (by simp [stR])
        unfold SN.onTurn
        rw [if_neg (by simp [stR]), q2, q3]
        simp [stR]
      have hD2 : deedS { T with x := { T.x with la := S.x.la, fl := true, tr := (m : Int) + 1 } } (stR S 4 p 0 0 0 []) = { T with x := { T.x with la := S.x.la, fl := false, tr := ((m + 1 : Nat) : Int) } } := by
        simp [deedS, stR]
      have ih := tries_lead S hw kk p hp T ⟨t1, t2, t3, t4⟩ n (m + 1) S.x.la (by omega)
      refine ⟨hV2, rfl, hR2, ?_⟩
      rw [hD2]
      have e9 : (({ T with x := { T.x with la := if n = 0 then S.x.la else S.x.la, fl := if n = 0 then false else S.x.fl, tr := ((m + 1 + n : Nat) : Int) } } : Sg)) = { T with x := { T.x with la := if n + 1 = 0 then a else S.x.la, fl := if n + 1 = 0 then false else S.x.fl, tr := ((m + (n + 1) : Nat) : Int) } } := by
        have e10 : m + 1 + n = m + (n + 1) := by omega
        by_cases hn : n = 0
        · have hfl : S.x.fl = false := by rcases hc with h | h; exact absurd hn h; exact h
          simp [hn, hfl]
        · simp [hn, e10]
      rw [← e9]
      exact ih
    · rw [if_neg hc]
      have hn : n = 0 := by omega
      subst hn
      have hfl : S.x.fl = true := by
        cases h : S.x.fl with
        | true => rfl
        | false => exact absurd (.inr h) hc
      simp [trL, Leads, hfl]
end Go.Proofs.YtdnackjakfiffaaGreatDoor

/-
  Saga, pure: a saga that Check takes is led to by its story.
-/
namespace Go.Proofs.YtdnackjakfiffaaGreatDoor
open Go Go.RowKit
open Wb

theorem way_of {S : Sg} (h : GdB S) : Way S := ⟨h.2.1.1, h.2.2.2.2.2.1, h.2.2.1⟩
theorem stO_full (S : Sg) (a : Int) : (stO S a S.outs.length).outs = S.outs := by simp [stO]
theorem stO_eq (S : Sg) (a : Int) : stO S a S.outs.length = ⟨⟨S.x.id, S.x.cnt, S.x.piv, S.x.beg, a, 1, S.outs.length, false, 0, 0, 0⟩, S.nm, S.inp, S.outs, [], []⟩ := by simp [stO]
theorem stU_eq (S : Sg) (a nx : Int) : stU S a nx S.und.length = ⟨⟨S.x.id, S.x.cnt, S.x.piv, S.x.beg, a, 2, nx, false, 0, S.x.fs, S.x.fc⟩, S.nm, S.inp, S.outs, S.und, S.fail⟩ := by simp [stU]
/-- running: what was done, then the tries -/
theorem lead_on (S : Sg) (hB : GdB S) (h : Gd1 S) : Leads (stO S S.x.beg 0) (storyT S) S := by
  obtain ⟨g, c1, c2, c3, c4, c5, c6, c7, c8, c9, c10⟩ := h
  have hw := way_of hB
  obtain ⟨b1, b2, b3, b4, b5, b6, b7, b8, b9, b10, b11⟩ := hB
  have h1 := outs_lead S hw b10 (by omega) S.outs 0 S.x.beg rfl (Nat.zero_le _)
  have hF : failL S = [] := by simp [failL, SN.fwd, g]
  have hE : endL S = [] := by simp [endL, SN.ended, g]
  have hK : trK S = 2 := by simp [trK, SN.fwd, g]
  have hU : S.x.turn = S.x.nx := by simp [SN.turn, SN.fwd, g]
  unfold storyT
  rw [hF, hE, hK, hU, List.nil_append, List.append_nil]
  refine Leads.cat _ h1 ?_
  generalize ha : (if S.outs = [] then S.x.beg else S.x.la) = a
  rw [stO_eq]
  obtain ⟨⟨id, cnt, piv, beg, la, ph, nx, fl, tr, fs, fc⟩, nm, inp, outs, und, fail⟩ := S
  dsimp only at *
  subst g c1 c2 c3 c4
  by_cases ht : tr = 0
  · subst ht
    have hfl : fl = false := by cases fl <;> simp_all
    subst hfl
    have hla : a = la := by
      rw [← ha]
      by_cases ho : outs = []
      · rw [if_pos ho]
        exact (c10 (by rw [← c7, ho]; rfl) rfl).symm
      · rw [if_neg ho]
    subst hla
    simp [trL, Leads, c7]
  · have hne : nx ≠ cnt := fun e => ht (c8 e).2
    have h2 := tries_lead ⟨⟨id, cnt, piv, beg, la, 1, nx, fl, tr, 0, 0⟩, nm, inp, outs, [], []⟩ hw 2 nx (by omega) ⟨⟨id, cnt, piv, beg, a, 1, outs.length, false, 0, 0, 0⟩, nm, inp, outs, [], []⟩ ⟨rfl, by simp [SN.atEnd, SN.fwd]; omega, by simp [SN.turn, SN.fwd, c7], .inl ⟨rfl, rfl⟩⟩ tr.toNat 0 a (by omega)
    have ht2 : tr.toNat ≠ 0 := by omega
    have ht3 : ((0 + tr.toNat : Nat) : Int) = tr := by omega
    rw [ht3, if_neg ht2, if_neg ht2] at h2
    dsimp only at h2
    rw [c7] at h2
    rw [c7]
    exact h2
/-- whole -/
theorem lead_whole (S : Sg) (hB : GdB S) (h : Gd3 S) : Leads (stO S S.x.beg 0) (storyT S) S := by
  obtain ⟨g, c1, c2, c3, c4, c5, c6, c7, c8⟩ := h
  have hw := way_of hB
  obtain ⟨b1, b2, b3, b4, b5, b6, b7, b8, b9, b10, b11⟩ := hB
  have h1 := outs_lead S hw b10 (by omega) S.outs 0 S.x.beg rfl (Nat.zero_le _)
  have hF : failL S = [] := by simp [failL, SN.fwd, g]
  have hE : endL S = [stR S 7 0 0 0 1 []] := by simp [endL, SN.ended, SN.outcome, SN.fwd, g]
  have hK : trL S (trK S) S.x.turn 0 S.x.tr.toNat = [] := by rw [c8]; rfl
  unfold storyT
  rw [hF, hE, hK, List.nil_append, List.nil_append]
  refine Leads.cat _ h1 ?_
  generalize (if S.outs = [] then S.x.beg else S.x.la) = a
  rw [stO_eq]
  obtain ⟨⟨id, cnt, piv, beg, la, ph, nx, fl, tr, fs, fc⟩, nm, inp, outs, und, fail⟩ := S
  dsimp only at *
  subst g c1 c2 c3 c4 c7 c8
  refine ⟨by simp [V3, stR]; omega, rfl, ?_, ?_⟩
  · simp [refP, stR, SN.ended, SN.inPh, kph, lands, SN.onTurn, SN.atEnd, SN.fwd, SN.outcome]; omega
  · simp [Leads, deedS, stR, c6]
/-- the failure, and what was undone since -/
theorem lead_fail (S : Sg) (hB : GdB S) (h : GdU S) (hph : S.x.fwd = false) (hfc : -9223372036854775808 ≤ S.x.fc ∧ S.x.fc ≤ 9223372036854775807) (a : Int) : Leads (stO S a S.outs.length) (failL S) (stU S S.x.la S.x.nx S.und.length) := by
  obtain ⟨c1, c2, c3, c4, c5, c6, c7, c8⟩ := h
  have hw := way_of hB
  obtain ⟨b1, b2, b3, b4, b5, b6, b7, b8, b9, b10, b11⟩ := hB
  have h2 := unds_lead S hw b11 c2 (by omega) S.und 0 rfl (Nat.zero_le _)
  have e1 : S.x.fs - (S.und.length : Int) = S.x.nx := by omega
  rw [e1] at h2
  have e2 : S.x.fs - ((0 : Nat) : Int) = S.x.fs := by omega
  have e3 : S.x.fs - 1 - ((0 : Nat) : Int) = S.x.fs - 1 := by omega
  rw [e2, e3] at h2
  unfold failL
  rw [if_neg (by simp [hph]), stO_eq, ← c1]
  have hne : ¬ (S.x.fs = S.x.cnt) := by omega
  refine ⟨by simp [V3, stR]; omega, rfl, ?_, by simp [V3, stR]; omega, rfl, ?_, ?_⟩
  · simp [refP, stR, SN.ended, SN.inPh, kph, lands, SN.onTurn, SN.atEnd, SN.fwd, SN.turn, SN.nextTry, hne]; rfl
  · have hb : (S.x.piv != 0 && decide (S.x.piv ≤ S.x.fs)) = false := by
      rcases c3 with h | h
      · simp [h]
      · simp; intro; omega
    simp [refP, deedS, stR, SN.ended, SN.inPh, kph, lands, SN.onTurn, SN.atEnd, SN.fwd, SN.turn, SN.behind, hne, hb]
  · have e4 : deedS (deedS ⟨⟨S.x.id, S.x.cnt, S.x.piv, S.x.beg, a, 1, S.x.fs, false, 0, 0, 0⟩, S.nm, S.inp, S.outs, [], []⟩ (stR S 2 S.x.fs 1 0 0 [])) (stR S 4 S.x.fs 0 1 S.x.fc S.fail) = stU S S.x.la S.x.fs 0 := by
      simp [deedS, stR, stU]
    rw [e4]
    exact h2
theorem lead_back (S : Sg) (hB : GdB S) (g : S.x.ph = 2) (h : GdU S) (hfc : -9223372036854775808 ≤ S.x.fc ∧ S.x.fc ≤ 9223372036854775807) : Leads (stO S S.x.beg 0) (storyT S) S := by
  have hfw : S.x.fwd = false := by simp [SN.fwd, g]
  have h0 := fun a => lead_fail S hB h hfw hfc a
  obtain ⟨c1, c2, c3, c4, c5, c6, c7, c8⟩ := h
  have hw := way_of hB
  obtain ⟨b1, b2, b3, b4, b5, b6, b7, b8, b9, b10, b11⟩ := hB
  have h1 := outs_lead S hw b10 (by omega) S.outs 0 S.x.beg rfl (Nat.zero_le _)
  have hE : endL S = [] := by simp [endL, SN.ended, g]
  have hK : trK S = 5 := by simp [trK, hfw]
  have hU : S.x.turn = S.x.nx - 1 := by simp [SN.turn, hfw]
  unfold storyT
  rw [hE, hK, hU, List.append_nil]
  refine Leads.cat _ h1 (Leads.cat _ (h0 _) ?_)
  rw [stU_eq]
  obtain ⟨⟨id, cnt, piv, beg, la, ph, nx, fl, tr, fs, fc⟩, nm, inp, outs, und, fail⟩ := S
  dsimp only at *
  subst g
  by_cases ht : tr = 0
  · subst ht
    have hfl : fl = false := by cases fl <;> simp_all
    subst hfl
    simp [trL, Leads]
  · have hne : nx ≠ 0 := fun e => ht (c7 e).2
    have h2 := tries_lead ⟨⟨id, cnt, piv, beg, la, 2, nx, fl, tr, fs, fc⟩, nm, inp, outs, und, fail⟩ hw 5 (nx - 1) (by omega) ⟨⟨id, cnt, piv, beg, la, 2, nx, false, 0, fs, fc⟩, nm, inp, outs, und, fail⟩ ⟨rfl, by simp [SN.atEnd, SN.fwd, hne], by simp [SN.turn, SN.fwd], .inr ⟨rfl, rfl⟩⟩ tr.toNat 0 la (by omega)
    have ht2 : tr.toNat ≠ 0 := by omega
    have ht3 : ((0 + tr.toNat : Nat) : Int) = tr := by omega
    rw [ht3, if_neg ht2, if_neg ht2] at h2
    exact h2
theorem lead_undone (S : Sg) (hB : GdB S) (g : S.x.ph = 4) (g0 : S.x.nx = 0) (h : GdU S) (hfc : -9223372036854775808 ≤ S.x.fc ∧ S.x.fc ≤ 9223372036854775807) : Leads (stO S S.x.beg 0) (storyT S) S := by
  have hfw : S.x.fwd = false := by simp [SN.fwd, g]
  have h0 := fun a => lead_fail S hB h hfw hfc a
  obtain ⟨c1, c2, c3, c4, c5, c6, c7, c8⟩ := h
  have hw := way_of hB
  obtain ⟨b1, b2, b3, b4, b5, b6, b7, b8, b9, b10, b11⟩ := hB
  have h1 := outs_lead S hw b10 (by omega) S.outs 0 S.x.beg rfl (Nat.zero_le _)
  obtain ⟨f1, f2⟩ := c7 g0
  have hE : endL S = [stR S 7 0 0 0 2 []] := by simp [endL, SN.ended, SN.outcome, SN.fwd, g]
  have hK : trL S (trK S) S.x.turn 0 S.x.tr.toNat = [] := by rw [f2]; rfl
  unfold storyT
  rw [hE, hK, List.nil_append]
  refine Leads.cat _ h1 (Leads.cat _ (h0 _) ?_)
  rw [stU_eq]
  obtain ⟨⟨id, cnt, piv, beg, la, ph, nx, fl, tr, fs, fc⟩, nm, inp, outs, und, fail⟩ := S
  dsimp only at *
  subst g g0 f1 f2
  refine ⟨by simp [V3, stR]; omega, rfl, ?_, ?_⟩
  · simp [refP, stR, SN.ended, SN.inPh, kph, lands, SN.onTurn, SN.atEnd, SN.fwd, SN.outcome]
  · simp [Leads, deedS, stR]
/-- a saga that Check takes is led to by its story -/
theorem story_leads (S : Sg) (h : chkS S = true) (hfc : -9223372036854775808 ≤ S.x.fc ∧ S.x.fc ≤ 9223372036854775807) : Leads (stO S S.x.beg 0) (storyT S) S := by
  obtain ⟨hB, h1 | h1 | ⟨g, h1⟩ | ⟨g, g0, h1⟩⟩ := (chkS_iff S).1 h
  · exact lead_on S hB h1
  · exact lead_whole S hB h1
  · exact lead_back S hB g h1 hfc
  · exact lead_undone S hB g g0 h1 hfc
end Go.Proofs.YtdnackjakfiffaaGreatDoor
