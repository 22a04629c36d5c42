import Derived.Test.YtodcakplmoajiaaDoorGL3
namespace Go.Proofs.YtodcakplmoajiaaDoor
open Go Go.RowKit
open Wb

structure SN where
 id : Int
 cnt : Int
 piv : Int
 beg : Int
 la : Int
 ph : Int
 nx : Int
 fl : Bool
 tr : Int
 fs : Int
 fc : Int
deriving DecidableEq
structure Sg where
 x : SN
 nm : ByteArray
 inp : List Nat
 outs : List (List Nat)
 und : List (List Nat)
 fail : List Nat
def zSg : Sg := ⟨⟨0, 0, 0, 0, 0, 0, 0, false, 0, 0, 0⟩, ⟨#[]⟩, [], [], [], []⟩
structure SH where
 ai : Option Addr
 ci : Nat
 ao : Option Addr
 co : Nat
 au : Option Addr
 cu : Nat
 af : Option Addr
 cf : Nat
def sv (S : Sg) (h : SH) : Value := .agg #[.int .i64 S.x.id, .string S.nm, .int .i64 S.x.cnt, .int .i64 S.x.piv, .int .i64 S.x.beg, .int .i64 S.x.la, .slice h.ai S.inp.length h.ci, .int .i64 S.x.ph, .int .i64 S.x.nx, .bool S.x.fl, .int .i64 S.x.tr, .slice h.ao S.outs.length h.co, .slice h.au S.und.length h.cu, .int .i64 S.x.fs, .int .i64 S.x.fc, .slice h.af S.fail.length h.cf]
namespace SN
def fwd (x : SN) : Bool := x.ph == 1 || x.ph == 3
def ended (x : SN) : Bool := x.ph == 3 || x.ph == 4
def atEnd (x : SN) : Bool := if x.fwd then x.nx == x.cnt else x.nx == 0
def turn (x : SN) : Int := if x.fwd then x.nx else x.nx - 1
def behind (x : SN) (p : Int) : Bool := x.piv != 0 && decide (x.piv ≤ p)
def outcome (x : SN) : Int := if x.fwd then 1 else 2
def nextTry (x : SN) : Int := min (x.tr + 1) 1000
end SN
def kph (k : Int) : Int := if k = 2 ∨ k = 3 then 1 else if k = 5 ∨ k = 6 then 2 else 0
def lands (k : Int) : Bool := k == 3 || k == 4 || k == 6
def SN.inPh (x : SN) (k : Int) : Bool := kph k == 0 || kph k == x.ph
def SN.onTurn (x : SN) (k p : Int) : Bool := if k = 7 then x.atEnd else !x.atEnd && p == x.turn
def win (n lo hi : Int) : Bool := decide (lo ≤ n) && decide (n ≤ hi)
def shortP (ls : List (List Nat)) : Bool := ls.all fun l => decide (l.length ≤ 16384)
def bnd (S : Sg) : Bool := decide ((Text.Tx.nmA S.nm).1 = 0) && win S.x.id 1 9223372036854775807 && win S.x.cnt 1 32 && win S.x.piv 0 S.x.cnt && win S.x.beg 0 9223372036854775807 && win S.x.la 0 9223372036854775807 && win S.x.ph 1 4 && win S.x.tr 0 1000 && shortP [S.inp] && shortP [S.fail] && shortP S.outs && shortP S.und
def SN.settled (x : SN) : Bool := if x.atEnd || x.ended then !x.fl && x.tr == 0 else !x.fl || x.tr != 0
def wentOn (S : Sg) : Bool := if S.x.fs != 0 || S.x.fc != 0 || (S.fail.length : Int) != 0 || (S.und.length : Int) != 0 || !win S.x.nx 0 S.x.cnt || (S.outs.length : Int) != S.x.nx then false else if S.x.ph == 3 then S.x.nx == S.x.cnt else !(S.x.nx == 0 && S.x.tr == 0) || S.x.la == S.x.beg
def wentBack (S : Sg) : Bool := if S.x.fs != (S.outs.length : Int) || decide (S.x.cnt ≤ S.x.fs) || S.x.behind S.x.fs then false else if !win S.x.nx 0 S.x.fs || (S.und.length : Int) != S.x.fs - S.x.nx then false else S.x.ph == 2 || S.x.nx == 0
def chkS (S : Sg) : Bool := bnd S && S.x.settled && (if S.x.fwd then wentOn S else wentBack S)
def refP (x : SN) (r : Nums) : Int :=
 if r.s ≠ x.id then 101 else if r.k = 1 then 102 else if x.ended then 103
 else if (!x.inPh r.k || (r.l == 1 && x.ph == 2)) then 104
 else if lands r.k != x.fl then 105
 else if !x.onTurn r.k r.p then 106
 else if r.t ≠ 0 ∧ r.t ≠ x.nextTry then 107
 else if (r.l == 1 && x.behind r.p) then 108
 else if r.k = 7 ∧ r.c ≠ 0 ∧ r.c ≠ x.outcome then 109 else 0
def deedS (S : Sg) (r : Rec) : Sg :=
 if r.x.k = 2 ∨ r.x.k = 5 then { S with x := { S.x with la := r.x.a, fl := true, tr := r.x.t } }
 else if r.x.k = 3 then { S with x := { S.x with la := r.x.a, fl := false, tr := 0, nx := S.x.nx + 1 }, outs := S.outs ++ [r.l] }
 else if r.x.k = 4 then (if r.x.l = 0 then { S with x := { S.x with la := r.x.a, fl := false } } else { S with x := { S.x with la := r.x.a, fl := false, tr := 0, ph := 2, fs := r.x.p, fc := r.x.c }, fail := r.l })
 else if r.x.k = 6 then { S with x := { S.x with la := r.x.a, fl := false, tr := 0, nx := S.x.nx - 1 }, und := S.und ++ [r.l] }
 else { S with x := { S.x with la := r.x.a, ph := if S.x.ph = 1 then 3 else 4 } }
def applyP (S : Sg) (r : Rec) : Int × Sg :=
 if chkS S = false then (100, zSg) else if (upP 3 r).1 ≠ 0 then ((upP 3 r).1, zSg) else if refP S.x (upP 3 r).2.x ≠ 0 then (refP S.x (upP 3 r).2.x, zSg) else (0, deedS S (upP 3 r).2)
def beginP (r : Rec) : Int × Sg :=
 if (upP 3 r).1 ≠ 0 then ((upP 3 r).1, zSg) else if (upP 3 r).2.x.k ≠ 1 then (102, zSg)
 else (0, ⟨⟨(upP 3 r).2.x.s, (upP 3 r).2.x.n, (upP 3 r).2.x.i, (upP 3 r).2.x.a, (upP 3 r).2.x.a, 1, 0, false, 0, 0, 0⟩, (upP 3 r).2.nm, (upP 3 r).2.l, [], [], []⟩)
def SN.may (x : SN) (k : Int) : Bool := x.inPh k && (lands k == x.fl) && ((k == 7) == x.atEnd)
def allowedP (S : Sg) : List Int := if chkS S = false ∨ S.x.ended = true then [] else [2, 3, 4, 5, 6, 7].filter S.x.may

def V3 (r : Rec) : Prop := 1 ≤ r.x.s ∧ 0 ≤ r.x.a ∧ r.x.a ≤ 9223372036854775807 ∧ ((r.x.k = 1 ∧ r.x.p = 0 ∧ r.x.t = 0 ∧ r.x.l = 0 ∧ r.x.c = 0 ∧ 1 ≤ r.x.n ∧ r.x.n ≤ 32 ∧ 0 ≤ r.x.i ∧ r.x.i ≤ r.x.n ∧ lab r.nm = 0 ∧ r.l.length ≤ 16384) ∨ ((r.x.k = 2 ∨ r.x.k = 5) ∧ 0 ≤ r.x.p ∧ r.x.p ≤ 31 ∧ 1 ≤ r.x.t ∧ r.x.t ≤ 1000 ∧ r.x.l = 0 ∧ r.x.c = 0 ∧ r.x.n = 0 ∧ r.x.i = 0 ∧ r.nm = ⟨#[]⟩ ∧ r.l = []) ∨ ((r.x.k = 3 ∨ r.x.k = 6) ∧ 0 ≤ r.x.p ∧ r.x.p ≤ 31 ∧ r.x.t = 0 ∧ r.x.l = 0 ∧ r.x.c = 0 ∧ r.x.n = 0 ∧ r.x.i = 0 ∧ r.nm = ⟨#[]⟩ ∧ r.l.length ≤ 16384) ∨ (r.x.k = 4 ∧ 0 ≤ r.x.p ∧ r.x.p ≤ 31 ∧ r.x.t = 0 ∧ 0 ≤ r.x.l ∧ r.x.l ≤ 1 ∧ -9223372036854775808 ≤ r.x.c ∧ r.x.c ≤ 9223372036854775807 ∧ r.x.n = 0 ∧ r.x.i = 0 ∧ r.nm = ⟨#[]⟩ ∧ r.l.length ≤ 16384) ∨ (r.x.k = 7 ∧ r.x.p = 0 ∧ r.x.t = 0 ∧ r.x.l = 0 ∧ 0 ≤ r.x.c ∧ r.x.c ≤ 2 ∧ r.x.n = 0 ∧ r.x.i = 0 ∧ r.nm = ⟨#[]⟩ ∧ r.l = []))
theorem v3_iff (r : Rec) (hv : r.x.v = 3) : chk r.x r.nm r.l = 0 ↔ V3 r := by
 obtain ⟨x, nm, l⟩ := r
 simp only [V3] at *
 rw [chk_exp, ← toList_nil]
 by_cases hk : 1 ≤ x.k ∧ x.k ≤ 7
 ·obtain h | h | h | h | h | h | h : x.k = 1 ∨ x.k = 2 ∨ x.k = 3 ∨ x.k = 4 ∨ x.k = 5 ∨ x.k = 6 ∨ x.k = 7 := by omega
  all_goals
   simp [tagE, Nums.row, tagR, tagRs, fldE, zeroT, Nums.tag, Nums.lo, Nums.hi, Nums.old, datE, hv, h]
   intro _
   constructor <;> (intro hh; simp [hh])
 ·constructor
  ·intro h; exact absurd h.2.1 hk
  ·rintro ⟨_, _, _, h | h | h | h | h⟩ <;> omega
theorem up3 (r : Rec) (hok : ok r.l) (h : (upP 3 r).1 = 0) : V3 (upP 3 r).2 ∧ (upP 3 r).2.x.v = 3 ∧ (upP 3 r).2.x.k = r.x.k ∧ (upP 3 r).2.x.s = r.x.s := by
 obtain ⟨h1, _, _, h2, h3⟩ := up_zero h
 rw [h3]
 obtain ⟨a, b, c, d, _⟩ := up_back r 3 hok h1 h2 (by omega)
 exact ⟨(v3_iff _ b).1 a, b, d, c⟩
def GdB (S : Sg) : Prop := (Text.Tx.nmA S.nm).1 = 0 ∧ (1 ≤ S.x.id ∧ S.x.id ≤ 9223372036854775807) ∧ (1 ≤ S.x.cnt ∧ S.x.cnt ≤ 32) ∧ (0 ≤ S.x.piv ∧ S.x.piv ≤ S.x.cnt) ∧ (0 ≤ S.x.beg ∧ S.x.beg ≤ 9223372036854775807) ∧ (0 ≤ S.x.la ∧ S.x.la ≤ 9223372036854775807) ∧ (0 ≤ S.x.tr ∧ S.x.tr ≤ 1000) ∧ S.inp.length ≤ 16384 ∧ S.fail.length ≤ 16384 ∧ shortP S.outs = true ∧ shortP S.und = true
def Gd1 (S : Sg) : Prop := S.x.ph = 1 ∧ S.x.fs = 0 ∧ S.x.fc = 0 ∧ S.fail = [] ∧ S.und = [] ∧ 0 ≤ S.x.nx ∧ S.x.nx ≤ S.x.cnt ∧ (S.outs.length : Int) = S.x.nx ∧ (S.x.nx = S.x.cnt → S.x.fl = false ∧ S.x.tr = 0) ∧ (S.x.fl = true → S.x.tr ≠ 0) ∧ (S.x.nx = 0 → S.x.tr = 0 → S.x.la = S.x.beg)
def Gd3 (S : Sg) : Prop := S.x.ph = 3 ∧ S.x.fs = 0 ∧ S.x.fc = 0 ∧ S.fail = [] ∧ S.und = [] ∧ S.x.nx = S.x.cnt ∧ (S.outs.length : Int) = S.x.nx ∧ S.x.fl = false ∧ S.x.tr = 0
def GdU (S : Sg) : Prop := S.x.fs = (S.outs.length : Int) ∧ S.x.fs < S.x.cnt ∧ (S.x.piv = 0 ∨ S.x.fs < S.x.piv) ∧ 0 ≤ S.x.nx ∧ S.x.nx ≤ S.x.fs ∧ (S.und.length : Int) = S.x.fs - S.x.nx ∧ (S.x.nx = 0 → S.x.fl = false ∧ S.x.tr = 0) ∧ (S.x.fl = true → S.x.tr ≠ 0)
def Gd (S : Sg) : Prop := GdB S ∧ (Gd1 S ∨ Gd3 S ∨ (S.x.ph = 2 ∧ GdU S) ∨ (S.x.ph = 4 ∧ S.x.nx = 0 ∧ GdU S))
theorem win_iff (n lo hi : Int) : win n lo hi = true ↔ lo ≤ n ∧ n ≤ hi := by simp [win]
theorem short1 (l : List Nat) : shortP [l] = true ↔ l.length ≤ 16384 := by simp [shortP]
theorem bnd_iff (S : Sg) : bnd S = true ↔ GdB S ∧ (1 ≤ S.x.ph ∧ S.x.ph ≤ 4) := by
 unfold bnd GdB
 simp only [Bool.and_eq_true, win_iff, short1, decide_eq_true_eq]
 constructor
 ·rintro ⟨⟨⟨⟨⟨⟨⟨⟨⟨⟨⟨a, b⟩, c⟩, d⟩, e⟩, f⟩, g⟩, h⟩, i⟩, j⟩, k⟩, l⟩
  exact ⟨⟨a, b, c, d, e, f, h, i, j, k, l⟩, g⟩
 ·rintro ⟨⟨a, b, c, d, e, f, h, i, j, k, l⟩, g⟩
  exact ⟨⟨⟨⟨⟨⟨⟨⟨⟨⟨⟨a, b⟩, c⟩, d⟩, e⟩, f⟩, g⟩, h⟩, i⟩, j⟩, k⟩, l⟩
theorem chkS_iff (S : Sg) : chkS S = true ↔ Gd S := by
 unfold chkS Gd
 rw [Bool.and_eq_true, Bool.and_eq_true, bnd_iff]
 by_cases hp : 1 ≤ S.x.ph ∧ S.x.ph ≤ 4
 ·obtain h | h | h | h : S.x.ph = 1 ∨ S.x.ph = 2 ∨ S.x.ph = 3 ∨ S.x.ph = 4 := by omega
  all_goals
   simp only [Gd1, Gd3, GdU, SN.settled, SN.fwd, SN.ended, SN.atEnd, SN.behind, wentOn, wentBack, h, and_assoc, and_congr_right_iff]
   intro hb
   obtain ⟨_, _, hc, hv, _, _, ht, _⟩ := hb
   cases hf : S.x.fl
   all_goals
    simp [win]
    try simp only [← List.length_eq_zero_iff]
    try omega
 ·constructor
  ·rintro ⟨⟨⟨_, h⟩, _⟩, _⟩; exact absurd h hp
  ·rintro ⟨_, ⟨h, _⟩ | ⟨h, _⟩ | ⟨h, _⟩ | ⟨h, _⟩⟩ <;> omega
theorem shortP_snoc (ls : List (List Nat)) (l : List Nat) (h : shortP ls = true) (hl : l.length ≤ 16384) : shortP (ls ++ [l]) = true := by
 unfold shortP at *
 rw [List.all_append, h]
 simp [hl]
theorem ref_zero {x : SN} {r : Nums} (h : refP x r = 0) : r.s = x.id ∧ r.k ≠ 1 ∧ x.ended = false ∧ x.inPh r.k = true ∧ ¬ (r.l = 1 ∧ x.ph = 2) ∧ lands r.k = x.fl ∧ x.onTurn r.k r.p = true ∧ (r.t = 0 ∨ r.t = x.nextTry) ∧ ¬ (r.l = 1 ∧ x.behind r.p = true) ∧ (r.k = 7 → r.c = 0 ∨ r.c = x.outcome) := by
 unfold refP at h
 by_cases h1 : r.s = x.id
 ·rw [if_neg (by simpa using h1)] at h
  by_cases h2 : r.k = 1
  ·rw [if_pos h2] at h; simp at h
  ·rw [if_neg h2] at h
   cases h3 : x.ended
   ·rw [h3] at h
    simp only [Bool.false_eq_true, if_false] at h
    split at h
    ·simp at h
    ·rename_i h4
     split at h
     ·simp at h
     ·rename_i h5
      split at h
      ·simp at h
      ·rename_i h6
       split at h
       ·simp at h
       ·rename_i h7
        split at h
        ·simp at h
        ·rename_i h8
         split at h
         ·simp at h
         ·rename_i h9
          simp at h4 h5 h6 h7 h8 h9
          refine ⟨h1, h2, rfl, h4.1, by simpa using h4.2, h5, h6, by omega, by simpa using h8, fun hk => ?_⟩
          have := h9 hk
          omega
   ·rw [h3] at h; simp at h
 ·rw [if_pos h1] at h; simp at h
theorem chkS_deed (S : Sg) (r : Rec) (h : chkS S = true) (hv : V3 r) (h0 : refP S.x r.x = 0) : chkS (deedS S r) = true := by
 rw [chkS_iff] at *
 obtain ⟨hs, hk, he, hp, hl, hf, ht, hy, hb, _⟩ := ref_zero h0
 obtain ⟨hB, hG⟩ := h
 obtain ⟨b1, b2, b3, b4, b5, b6, b7, b8, b9, b10, b11⟩ := hB
 obtain ⟨v1, v2, v3, vk⟩ := hv
 simp only [SN.ended, SN.inPh, SN.onTurn, SN.atEnd, SN.turn, SN.fwd, SN.behind] at he hp ht hb
 rcases vk with ⟨k, _⟩ | ⟨k, q⟩ | ⟨k, q⟩ | ⟨k, q⟩ | ⟨k, q⟩
 ·exact absurd k hk
 ·have hd : deedS S r = { S with x := { S.x with la := r.x.a, fl := true, tr := r.x.t } } := by unfold deedS; rw [if_pos k]
  rw [hd]
  refine ⟨⟨b1, b2, b3, b4, b5, ⟨v2, v3⟩, ⟨by dsimp only; omega, by dsimp only; omega⟩, b8, b9, b10, b11⟩, ?_⟩
  rcases hG with ⟨g, c1, c2, c3, c4, c5, c6, c7, c8, c9, c10⟩ | ⟨g, _⟩ | ⟨g, c1, c2, c3, c4, c5, c6, c7, c8⟩ | ⟨g, _⟩
  ·rcases k with k | k
   ·simp [g, k] at ht
    exact .inl ⟨g, c1, c2, c3, c4, c5, c6, c7, fun e => absurd e ht.1, fun _ => by dsimp only; omega, fun _ e => by dsimp only at e; omega⟩
   ·simp [g, k, kph] at hp
  ·simp [g] at he
  ·rcases k with k | k
   ·simp [g, k, kph] at hp
   ·simp [g, k] at ht
    exact .inr (.inr (.inl ⟨g, c1, c2, c3, c4, c5, c6, fun e => absurd e ht.1, fun _ => by dsimp only; omega⟩))
  ·simp [g] at he
 ·rcases k with k | k
  ·have hd : deedS S r = { S with x := { S.x with la := r.x.a, fl := false, tr := 0, nx := S.x.nx + 1 }, outs := S.outs ++ [r.l] } := by unfold deedS; rw [if_neg (by omega), if_pos k]
   rw [hd]
   refine ⟨⟨b1, b2, b3, b4, b5, ⟨v2, v3⟩, ⟨by dsimp only; omega, by dsimp only; omega⟩, b8, b9, shortP_snoc _ _ b10 q.2.2.2.2.2.2.2.2, b11⟩, ?_⟩
   rcases hG with ⟨g, c1, c2, c3, c4, c5, c6, c7, c8, c9, c10⟩ | ⟨g, _⟩ | ⟨g, _⟩ | ⟨g, _⟩
   ·simp [g, k] at ht
    exact .inl ⟨g, c1, c2, c3, c4, by dsimp only; omega, by dsimp only; omega, by dsimp only; rw [List.length_append, List.length_singleton]; omega, fun _ => ⟨rfl, rfl⟩, fun e => by simp at e, fun e => by dsimp only at e; omega⟩
   ·simp [g] at he
   ·simp [g, k, kph] at hp
   ·simp [g] at he
  ·have hd : deedS S r = { S with x := { S.x with la := r.x.a, fl := false, tr := 0, nx := S.x.nx - 1 }, und := S.und ++ [r.l] } := by unfold deedS; rw [if_neg (by omega), if_neg (by omega), if_neg (by omega), if_pos k]
   rw [hd]
   refine ⟨⟨b1, b2, b3, b4, b5, ⟨v2, v3⟩, ⟨by dsimp only; omega, by dsimp only; omega⟩, b8, b9, b10, shortP_snoc _ _ b11 q.2.2.2.2.2.2.2.2⟩, ?_⟩
   rcases hG with ⟨g, _⟩ | ⟨g, _⟩ | ⟨g, c1, c2, c3, c4, c5, c6, c7, c8⟩ | ⟨g, _⟩
   ·simp [g, k, kph] at hp
   ·simp [g] at he
   ·simp [g, k] at ht
    exact .inr (.inr (.inl ⟨g, c1, c2, c3, by dsimp only; omega, by dsimp only; omega, by dsimp only; rw [List.length_append, List.length_singleton]; omega, fun _ => ⟨rfl, rfl⟩, fun e => by simp at e⟩))
   ·simp [g] at he
 ·by_cases hl0 : r.x.l = 0
  ·have hd : deedS S r = { S with x := { S.x with la := r.x.a, fl := false } } := by unfold deedS; rw [if_neg (by omega), if_neg (by omega), if_pos k, if_pos hl0]
   have hfl : S.x.fl = true := by rw [← hf]; simp [lands, k]
   rw [hd]
   refine ⟨⟨b1, b2, b3, b4, b5, ⟨v2, v3⟩, b7, b8, b9, b10, b11⟩, ?_⟩
   rcases hG with ⟨g, c1, c2, c3, c4, c5, c6, c7, c8, c9, c10⟩ | ⟨g, _⟩ | ⟨g, c1, c2, c3, c4, c5, c6, c7, c8⟩ | ⟨g, _⟩
   ·exact .inl ⟨g, c1, c2, c3, c4, c5, c6, c7, fun e => ⟨rfl, (c8 e).2⟩, fun e => by simp at e, fun _ e => absurd e (c9 hfl)⟩
   ·simp [g] at he
   ·exact .inr (.inr (.inl ⟨g, c1, c2, c3, c4, c5, c6, fun e => ⟨rfl, (c7 e).2⟩, fun e => by simp at e⟩))
   ·simp [g] at he
  ·have hl1 : r.x.l = 1 := by omega
   have hd : deedS S r = { S with x := { S.x with la := r.x.a, fl := false, tr := 0, ph := 2, fs := r.x.p, fc := r.x.c }, fail := r.l } := by unfold deedS; rw [if_neg (by omega), if_neg (by omega), if_pos k, if_neg hl0]
   rw [hd]
   refine ⟨⟨b1, b2, b3, b4, b5, ⟨v2, v3⟩, ⟨by dsimp only; omega, by dsimp only; omega⟩, b8, q.2.2.2.2.2.2.2.2.2.2, b10, b11⟩, ?_⟩
   rcases hG with ⟨g, c1, c2, c3, c4, c5, c6, c7, c8, c9, c10⟩ | ⟨g, _⟩ | ⟨g, _⟩ | ⟨g, _⟩
   ·simp [g, k] at ht
    simp [hl1] at hb
    refine .inr (.inr (.inl ⟨rfl, by dsimp only; omega, by dsimp only; omega, by dsimp only; omega, c5, by dsimp only; omega, ?_, fun _ => ⟨rfl, rfl⟩, fun e => by simp at e⟩))
    dsimp only
    rw [c4]
    simp
    omega
   ·simp [g] at he
   ·exact absurd ⟨hl1, g⟩ hl
   ·simp [g] at he
 ·have hd : deedS S r = { S with x := { S.x with la := r.x.a, ph := if S.x.ph = 1 then 3 else 4 } } := by unfold deedS; rw [if_neg (by omega), if_neg (by omega), if_neg (by omega), if_neg (by omega)]
  rw [hd]
  refine ⟨⟨b1, b2, b3, b4, b5, ⟨v2, v3⟩, b7, b8, b9, b10, b11⟩, ?_⟩
  rcases hG with ⟨g, c1, c2, c3, c4, c5, c6, c7, c8, c9, c10⟩ | ⟨g, _⟩ | ⟨g, c1, c2, c3, c4, c5, c6, c7, c8⟩ | ⟨g, _⟩
  ·simp [g, k] at ht
   exact .inr (.inl ⟨by dsimp only; rw [if_pos g], c1, c2, c3, c4, ht, c7, (c8 ht).1, (c8 ht).2⟩)
  ·simp [g] at he
  ·simp [g, k] at ht
   exact .inr (.inr (.inr ⟨by dsimp only; rw [if_neg (by omega)], ht, c1, c2, c3, c4, c5, c6, c7, c8⟩))
  ·simp [g] at he
theorem ended_deed (S : Sg) (r : Rec) (hv : V3 r) (h0 : refP S.x r.x = 0) : (deedS S r).x.ended = decide (r.x.k = 7) := by
 obtain ⟨hs, hk, he, hp, hl, hf, ht, hy, hb, _⟩ := ref_zero h0
 obtain ⟨v1, v2, v3, vk⟩ := hv
 unfold SN.ended at *
 have hk27 : (r.x.k = 2 ∨ r.x.k = 5) ∨ r.x.k = 3 ∨ r.x.k = 4 ∨ r.x.k = 6 ∨ r.x.k = 7 := by omega
 unfold deedS
 rcases hk27 with k | k | k | k | k
 ·rw [if_pos k]
  simp at he
  have k7 : r.x.k ≠ 7 := by omega
  simp [he, k7]
 ·simp at he
  simp [k, he]
 ·by_cases hl0 : r.x.l = 0
  ·simp at he
   simp [k, hl0, he]
  ·simp [k, hl0]
 ·simp at he
  simp [k, he]
 ·simp [k]
  by_cases hp1 : S.x.ph = 1 <;> simp [hp1]
theorem steps_deed (S : Sg) (r : Rec) (h : chkS S = true) (hv : V3 r) (h0 : refP S.x r.x = 0) :
  (deedS S r).x.id = S.x.id ∧ (deedS S r).x.cnt = S.x.cnt ∧ (deedS S r).x.piv = S.x.piv ∧ (deedS S r).x.beg = S.x.beg ∧ (deedS S r).nm = S.nm ∧
  (r.x.k = 3 → S.und = [] ∧ r.x.p = (S.outs.length : Int) ∧ (S.outs.length : Int) < S.x.cnt ∧ (deedS S r).outs.length = S.outs.length + 1 ∧ (deedS S r).und = S.und) ∧
  (r.x.k = 6 → r.x.p = (S.outs.length : Int) - 1 - (S.und.length : Int) ∧ 0 ≤ r.x.p ∧ (S.x.piv = 0 ∨ (S.outs.length : Int) < S.x.piv) ∧ (deedS S r).outs = S.outs ∧ (deedS S r).und.length = S.und.length + 1) ∧
  (r.x.k ≠ 3 → r.x.k ≠ 6 → (deedS S r).outs = S.outs ∧ (deedS S r).und = S.und) := by
 obtain ⟨hs, hk, he, hp, hl, hf, ht, hy, hb, _⟩ := ref_zero h0
 obtain ⟨hB, hG⟩ := (chkS_iff S).1 h
 obtain ⟨v1, v2, v3, vk⟩ := hv
 simp only [SN.ended, SN.inPh, SN.onTurn, SN.atEnd, SN.turn, SN.fwd, SN.behind] at he hp ht hb
 have hk27 : (r.x.k = 2 ∨ r.x.k = 5) ∨ r.x.k = 3 ∨ r.x.k = 4 ∨ r.x.k = 6 ∨ r.x.k = 7 := by omega
 unfold deedS
 rcases hk27 with k | k | k | k | k
 ·rw [if_pos k]
  exact ⟨rfl, rfl, rfl, rfl, rfl, fun e => by omega, fun e => by omega, fun _ _ => ⟨rfl, rfl⟩⟩
 ·rw [if_neg (by omega), if_pos k]
  rcases hG with ⟨g, c1, c2, c3, c4, c5, c6, c7, c8, c9, c10⟩ | ⟨g, _⟩ | ⟨g, _⟩ | ⟨g, _⟩
  ·simp [g, k] at ht
   exact ⟨rfl, rfl, rfl, rfl, rfl, fun _ => ⟨c4, by omega, by omega, by simp, rfl⟩, fun e => by omega, fun e => absurd k e⟩
  ·simp [g] at he
  ·simp [g, k, kph] at hp
  ·simp [g] at he
 ·rw [if_neg (by omega), if_neg (by omega), if_pos k]
  by_cases hl0 : r.x.l = 0
  ·rw [if_pos hl0]
   exact ⟨rfl, rfl, rfl, rfl, rfl, fun e => by omega, fun e => by omega, fun _ _ => ⟨rfl, rfl⟩⟩
  ·rw [if_neg hl0]
   exact ⟨rfl, rfl, rfl, rfl, rfl, fun e => by omega, fun e => by omega, fun _ _ => ⟨rfl, rfl⟩⟩
 ·rw [if_neg (by omega), if_neg (by omega), if_neg (by omega), if_pos k]
  rcases hG with ⟨g, _⟩ | ⟨g, _⟩ | ⟨g, c1, c2, c3, c4, c5, c6, c7, c8⟩ | ⟨g, _⟩
  ·simp [g, k, kph] at hp
  ·simp [g] at he
  ·simp [g, k] at ht
   exact ⟨rfl, rfl, rfl, rfl, rfl, fun e => by omega, fun _ => ⟨by omega, by omega, by omega, rfl, by simp⟩, fun _ e => absurd k e⟩
  ·simp [g] at he
 ·rw [if_neg (by omega), if_neg (by omega), if_neg (by omega), if_neg (by omega)]
  exact ⟨rfl, rfl, rfl, rfl, rfl, fun e => by omega, fun e => by omega, fun _ _ => ⟨rfl, rfl⟩⟩
def happyK (S : Sg) : Int := if S.x.atEnd then 7 else if S.x.ph = 1 then (if S.x.fl then 3 else 2) else (if S.x.fl then 6 else 5)
def happyP (S : Sg) : Rec := ⟨⟨3, happyK S, S.x.id, if happyK S = 7 then 0 else S.x.turn, if happyK S = 2 ∨ happyK S = 5 then S.x.nextTry else 0, 9, 0, 0, 0, 0⟩, ⟨#[]⟩, []⟩
def left (S : Sg) : Nat := (if S.x.ph = 1 then 2 * (S.x.cnt - S.x.nx) else 2 * S.x.nx).toNat + (if S.x.fl then 0 else 1)
end Go.Proofs.YtodcakplmoajiaaDoor
