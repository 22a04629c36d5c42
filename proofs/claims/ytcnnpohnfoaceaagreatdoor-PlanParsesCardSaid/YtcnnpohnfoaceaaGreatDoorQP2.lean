import Derived.Test.YtcnnpohnfoaceaaGreatDoorQP1
import Derived.Test.YtcnnpohnfoaceaaGreatDoorQT6
import Derived.Test.YtcnnpohnfoaceaaGreatDoorQB1
/-
  Package plan: what the words of a line say, as plain functions.
-/
namespace Go.Proofs.YtcnnpohnfoaceaaGreatDoor
open Go Go.RowKit
open Wb
open Text.Tx (Wd wdc wds wordP wdA)

def takeP (k : Int) : List Wd → Option (Wd × List Wd)
  | [] => none
  | d :: r => if d.k = k then some (d, r) else none
def signP (t : ByteArray) : List Wd → Option (List Wd)
  | [] => none
  | d :: r => if (d.t.toList == t.toList) = true ∧ d.k = 4 then some r else none
/-- what the reader has read -/
structure RdP where
  piv : Int
  ss : List Stp
  ats : List Int
def triesP (t : Int) (ws : List Wd) : Except (List Wd) (Int × List Wd) :=
  match signP ⟨#[42]⟩ ws with
  | none => .ok (t, ws)
  | some w2 => match takeP 2 w2 with
    | none => .error w2
    | some (d, w3) => .ok (d.n, w3)
def endP (piv : Int) (n : Nat) (ws : List Wd) : Except (List Wd) (ByteArray × Int × List Wd) :=
  match (if piv = 0 then signP ⟨#[33]⟩ ws else none) with
  | some w2 => .ok (⟨#[]⟩, (n : Int) + 1, w2)
  | none => match signP ⟨#[126]⟩ ws with
    | none => .ok (⟨#[]⟩, piv, ws)
    | some w2 => match takeP 1 w2 with
      | none => .error w2
      | some (d, w3) => .ok (d.t, piv, w3)
def stepP (R : RdP) (ws : List Wd) : Except (List Wd) (RdP × List Wd) :=
  match takeP 1 ws with
  | none => .error ws
  | some (d, w1) => match triesP (if R.piv = 0 then 1 else 0) w1 with
    | .error e => .error e
    | .ok (t, w2) => match endP R.piv R.ss.length w2 with
      | .error e => .error e
      | .ok (u, pv, w3) => .ok (⟨pv, R.ss ++ [⟨d.t, u, t⟩], R.ats ++ [d.at_]⟩, w3)
def stepsP : Nat → RdP → List Wd → Except (List Wd) RdP
  | 0, _, ws => .error ws
  | _ + 1, R, [] => .ok R
  | f + 1, R, d :: r => match signP ⟨#[44]⟩ (d :: r) with
    | none => .error (d :: r)
    | some w1 => match stepP R w1 with
      | .error e => .error e
      | .ok (R', w2) => stepsP f R' w2
def wholeP (ws : List Wd) : Except (List Wd) (ByteArray × RdP) :=
  match takeP 1 ws with
  | none => .error ws
  | some (d, w1) => match signP ⟨#[58]⟩ w1 with
    | none => .error w1
    | some w2 => match stepP ⟨0, [], []⟩ w2 with
      | .error e => .error e
      | .ok (R, w3) => match stepsP (w3.length + 1) R w3 with
        | .error e => .error e
        | .ok R' => .ok (d.t, R')
def placeP (ws : List Wd) (n : Nat) : Int := match ws with | [] => (n : Int) | d :: _ => d.at_
theorem takeP_len {k : Int} {ws : List Wd} {d : Wd} {r : List Wd} (h : takeP k ws = some (d, r)) : ws = d :: r ∧ d.k = k := by
  cases ws with
  | nil => cases h
  | cons a t =>
    rw [takeP] at h
    split at h
    · injection h with h; injection h with h1 h2; subst h1; subst h2; exact ⟨rfl, by assumption⟩
    · cases h
theorem signP_len {t : ByteArray} {ws : List Wd} {r : List Wd} (h : signP t ws = some r) : ∃ d, ws = d :: r ∧ d.k = 4 ∧ (d.t.toList == t.toList) = true := by
  cases ws with
  | nil => cases h
  | cons a q =>
    rw [signP] at h
    split at h
    · injection h with h; subst h; rename_i h9; exact ⟨a, rfl, h9.2, h9.1⟩
    · cases h
theorem triesP_len {t t' : Int} {ws r : List Wd} (h : triesP t ws = .ok (t', r)) : r.length ≤ ws.length := by
  unfold triesP at h
  split at h
  · injection h with h; injection h with h1 h2; subst h2; exact Nat.le_refl _
  · rename_i w2 h1
    obtain ⟨d, rfl, -⟩ := signP_len h1
    split at h
    · cases h
    · rename_i d2 w3 h2
      obtain ⟨rfl, -⟩ := takeP_len h2
      injection h with h; injection h with h1 h2; subst h2
      simp only [List.length_cons]
      omega
theorem endP_len {pv : Int} {n : Nat} {ws r : List Wd} {u : ByteArray} {pv' : Int} (h : endP pv n ws = .ok (u, pv', r)) : r.length ≤ ws.length := by
  unfold endP at h
  split at h
  · rename_i w2 h1
    split at h1
    · obtain ⟨d, rfl, -⟩ := signP_len h1
      injection h with h; injection h with h1 h2; injection h2 with h2 h3; subst h3
      simp
    · cases h1
  · split at h
    · injection h with h; injection h with h1 h2; injection h2 with h2 h3; subst h3; exact Nat.le_refl _
    · rename_i w2 h1
      obtain ⟨d, rfl, -⟩ := signP_len h1
      split at h
      · cases h
      · rename_i d2 w3 h2
        obtain ⟨rfl, -⟩ := takeP_len h2
        injection h with h; injection h with h1 h2; injection h2 with h2 h3; subst h3
        simp only [List.length_cons]
        omega
theorem stepP_len {R R' : RdP} {ws r : List Wd} (h : stepP R ws = .ok (R', r)) : r.length < ws.length ∧ R'.ss.length = R.ss.length + 1 ∧ R'.ats.length = R.ats.length + 1 := by
  unfold stepP at h
  split at h
  · cases h
  · rename_i d w1 h1
    obtain ⟨rfl, -⟩ := takeP_len h1
    split at h
    · cases h
    · rename_i t w2 h2
      split at h
      · cases h
      · rename_i u pv w3 h3
        injection h with h; injection h with h4 h5; subst h4; subst h5
        have e1 := triesP_len h2
        have e2 := endP_len h3
        refine ⟨by simp only [List.length_cons]; omega, by simp, by simp⟩
/-- the words that are left -/
theorem stepsP_step {f : Nat} {R : RdP} {ws w1 w2 : List Wd} {R' : RdP} (h1 : signP ⟨#[44]⟩ ws = some w1) (h2 : stepP R w1 = .ok (R', w2)) : stepsP (f + 1) R ws = stepsP f R' w2 := by
  obtain ⟨d, rfl, -⟩ := signP_len h1
  rw [stepsP, h1]
  simp only
  rw [h2]
end Go.Proofs.YtcnnpohnfoaceaaGreatDoor

/-
  Package plan: the reader in memory.
-/
namespace Go.Proofs.YtcnnpohnfoaceaaGreatDoor
open Go Go.RowKit
open Wb
open Text.Tx (Wd wdc wds wordP wdA)

/-- words in a slice, in a block below b -/
def WdB (b : Nat) (w : World) (v : Value) (ws : List Wd) : Prop := ∃ ao, ∃ cap : Nat, v = .slice ao ws.length cap ∧ ws.length ≤ cap ∧ cap ≤ maxLen ∧ ∀ (k : Nat) (d : Wd), ws[k]? = some d → ∃ g off, ao = some ⟨g, off, none⟩ ∧ g < b ∧ w.rangeAt g (off + k * 4) (wdc d)
theorem WdB.same {b : Nat} {w w' : World} {v : Value} {ws : List Wd} (h : WdB b w v ws) (hb : ∀ g, g < b → w'.heap[g]? = w.heap[g]?) : WdB b w' v ws := by
  obtain ⟨ao, cap, rfl, h1, h2, h3⟩ := h
  refine ⟨ao, cap, rfl, h1, h2, fun k d hd => ?_⟩
  obtain ⟨g, off, e, hg, hr⟩ := h3 k d hd
  refine ⟨g, off, e, hg, fun j u hu => ?_⟩
  rw [World.cell?_of_block (a := ⟨g, off + k * 4 + j, none⟩) (hb g hg)]
  exact hr j u hu
theorem flat_wd : ∀ (l : List Wd) (k : Nat) (s : Wd) (j : Nat) (u : Value), l[k]? = some s → (wdc s)[j]? = some u → (l.flatMap wdc)[k * 4 + j]? = some u
  | [], k, s, j, u, h, _ => by simp at h
  | x :: r, 0, s, j, u, h, hj => by
    simp at h
    subst h
    rw [List.flatMap_cons, Nat.zero_mul, Nat.zero_add, List.getElem?_append_left (List.getElem?_eq_some_iff.1 hj).1]
    exact hj
  | x :: r, k + 1, s, j, u, h, hj => by
    rw [List.flatMap_cons, List.getElem?_append_right (by show 4 ≤ _; omega)]
    show (r.flatMap wdc)[(k + 1) * 4 + j - 4]? = _
    rw [show (k + 1) * 4 + j - 4 = k * 4 + j by omega]
    exact flat_wd r k s j u (by simpa using h) hj
theorem wdb_of {B : Nat} {w : World} {v : Value} {l : List Wd} (h : Text.WdR B w v l) : WdB w.heap.size w v l := by
  have h0 := h
  unfold Text.WdR at h
  rcases h.2 with ⟨rfl, h1⟩ | ⟨g, cap, cur, rfl, _, hh, h1, h2, h3, h4⟩
  · obtain rfl : l = [] := List.eq_nil_of_length_eq_zero h1
    exact ⟨none, 0, rfl, Nat.le_refl _, Nat.zero_le _, fun k s hs => by simp at hs⟩
  · refine ⟨some ⟨g, 0, none⟩, cap, rfl, h1, h2, fun k s hs => ⟨g, 0, rfl, (Array.getElem?_eq_some_iff.1 hh).1, fun j u hj => ?_⟩⟩
    have hk := (List.getElem?_eq_some_iff.1 hs).1
    have hj4 : j < 4 := (List.getElem?_eq_some_iff.1 hj).1
    have h9 := World.ownsRow.cellAt h0 (k * 4 + j) (by omega)
    rw [Nat.zero_add, h9]
    exact flat_wd l k s j u hs hj
/-- only block b is another -/
def Chg (b : Nat) (w w' : World) : Prop := Below b w w' ∧ ∀ g, g ≠ b → g < w.heap.size → w'.heap[g]? = w.heap[g]?
theorem Chg.refl (b : Nat) (w : World) : Chg b w w := ⟨Below.refl _ _, fun _ _ _ => rfl⟩
theorem Chg.trans {b : Nat} {w w' w'' : World} (h : Chg b w w') (k : Chg b w' w'') : Chg b w w'' := ⟨h.1.trans k.1, fun g h1 h2 => (k.2 g h1 (Nat.lt_of_lt_of_le h2 h.1.size)).trans (h.2 g h1 h2)⟩
theorem Chg.of {b : Nat} {w w' : World} (hb : b < w.heap.size) (h : Below w.heap.size w w') : Chg b w w' := ⟨h.mono (Nat.le_of_lt hb), fun g _ h2 => h.block g h2⟩
theorem Chg.set (b j : Nat) (w : World) (v : Value) : Chg b w (w.setCell ⟨b, j, none⟩ v) := ⟨Below.setCell (p := ⟨b, j, none⟩) (Below.refl b w) (Nat.le_refl b) v, fun _g h1 _ => set_other _ _ _ _ h1⟩
theorem Chg.lb {b : Nat} {w w' : World} (h : Chg b w w') {g : Nat} {t : TypeId} {D : List Value} (hg : g ≠ b) (l : LB w g t D) : LB w' g t D := (h.2 g hg l.lt).trans l
/-- only blocks b and c are others -/
def Ch2 (b c : Nat) (w w' : World) : Prop := Below b w w' ∧ ∀ g, g ≠ b → g ≠ c → g < w.heap.size → w'.heap[g]? = w.heap[g]?
theorem Ch2.trans {b c : Nat} {w w' w'' : World} (h : Ch2 b c w w') (k : Ch2 b c w' w'') : Ch2 b c w w'' := ⟨h.1.trans k.1, fun g h1 h2 h3 => (k.2 g h1 h2 (Nat.lt_of_lt_of_le h3 h.1.size)).trans (h.2 g h1 h2 h3)⟩
theorem Chg.two {b : Nat} (c : Nat) {w w' : World} (h : Chg b w w') : Ch2 b c w w' := ⟨h.1, fun g h1 _ h2 => h.2 g h1 h2⟩
theorem Ch2.set {b c : Nat} (hc : b ≤ c) (j : Nat) (w : World) (v : Value) : Ch2 b c w (w.setCell ⟨c, j, none⟩ v) := ⟨Below.setCell (p := ⟨c, j, none⟩) (Below.refl b w) hc v, fun _g _ h1 _ => set_other _ _ _ _ h1⟩
theorem Ch2.set1 {b c : Nat} (j : Nat) (w : World) (v : Value) : Ch2 b c w (w.setCell ⟨b, j, none⟩ v) := (Chg.set b j w v).two c
/-- the reader: the words that are left, the line's length, the plan so far -/
def RdW (b : Nat) (w : World) (ws : List Wd) (en : Int) (nm : ByteArray) (pv : Int) (vs va : Value) : Prop := ∃ vw, LB w b 43 [vw, .int .i64 en, .string nm, .int .i64 pv, vs, va] ∧ WdB b w vw ws
theorem RdW.same {b : Nat} {w w' : World} {ws : List Wd} {en : Int} {nm : ByteArray} {pv : Int} {vs va : Value} (h : RdW b w ws en nm pv vs va) (hb : ∀ g, g ≤ b → w'.heap[g]? = w.heap[g]?) : RdW b w' ws en nm pv vs va := by
  obtain ⟨vw, h1, h2⟩ := h
  exact ⟨vw, (hb b (Nat.le_refl _)).trans h1, h2.same fun g hg => hb g (Nat.le_of_lt hg)⟩
theorem RdW.lt {b : Nat} {w : World} {ws : List Wd} {en : Int} {nm : ByteArray} {pv : Int} {vs va : Value} (h : RdW b w ws en nm pv vs va) : b < w.heap.size := by
  obtain ⟨vw, h1, h2⟩ := h
  exact h1.lt
theorem RdW.kept {b : Nat} {w w' : World} {ws : List Wd} {en : Int} {nm : ByteArray} {pv : Int} {vs va : Value} (h : RdW b w ws en nm pv vs va) (hb : Below w.heap.size w w') : RdW b w' ws en nm pv vs va := h.same fun g hg => hb.block g (Nat.lt_of_le_of_lt hg h.lt)
/-- another cell of the reader -/
theorem RdW.pivot {b : Nat} {w : World} {ws : List Wd} {en : Int} {nm : ByteArray} {pv : Int} {vs va : Value} (h : RdW b w ws en nm pv vs va) (q : Int) : RdW b (w.setCell ⟨b, 3, none⟩ (.int .i64 q)) ws en nm q vs va := by
  obtain ⟨vw, h1, h2⟩ := h
  exact ⟨vw, h1.set 3 _, h2.same fun g hg => set_other _ _ _ _ (Nat.ne_of_lt hg)⟩
theorem RdW.name {b : Nat} {w : World} {ws : List Wd} {en : Int} {nm : ByteArray} {pv : Int} {vs va : Value} (h : RdW b w ws en nm pv vs va) (q : ByteArray) : RdW b (w.setCell ⟨b, 2, none⟩ (.string q)) ws en q pv vs va := by
  obtain ⟨vw, h1, h2⟩ := h
  exact ⟨vw, h1.set 2 _, h2.same fun g hg => set_other _ _ _ _ (Nat.ne_of_lt hg)⟩
theorem RdW.steps {b : Nat} {w : World} {ws : List Wd} {en : Int} {nm : ByteArray} {pv : Int} {vs va : Value} (h : RdW b w ws en nm pv vs va) (q : Value) : RdW b (w.setCell ⟨b, 4, none⟩ q) ws en nm pv q va := by
  obtain ⟨vw, h1, h2⟩ := h
  exact ⟨vw, h1.set 4 _, h2.same fun g hg => set_other _ _ _ _ (Nat.ne_of_lt hg)⟩
theorem RdW.ats {b : Nat} {w : World} {ws : List Wd} {en : Int} {nm : ByteArray} {pv : Int} {vs va : Value} (h : RdW b w ws en nm pv vs va) (q : Value) : RdW b (w.setCell ⟨b, 5, none⟩ q) ws en nm pv vs q := by
  obtain ⟨vw, h1, h2⟩ := h
  exact ⟨vw, h1.set 5 _, h2.same fun g hg => set_other _ _ _ _ (Nat.ne_of_lt hg)⟩
end Go.Proofs.YtcnnpohnfoaceaaGreatDoor

/-
  Package plan: the reader's take, sign, place.
-/
namespace Go.Proofs.YtcnnpohnfoaceaaGreatDoor
open Go Go.RowKit
open Wb
open Text.Tx (Wd wdc wds wordP wdA)

def wdZ : Wd := ⟨0, 0, ⟨#[]⟩, 0⟩
def wdV (d : Wd) : Value := .agg #[.int .i64 d.k, .int .i64 d.at_, .string d.t, .int .i64 d.n]
/-- what is told of the reader and its first word -/
theorem RdW.facts {b : Nat} {w : World} {d : Wd} {r : List Wd} {en : Int} {nm : ByteArray} {pv : Int} {vs va : Value} (h : RdW b w (d :: r) en nm pv vs va) :
    ∃ (g off cap : Nat), g < b ∧ b < w.heap.size ∧ r.length + 1 ≤ cap ∧ cap ≤ maxLen ∧ LB w b 43 [.slice (some ⟨g, off, none⟩) (r.length + 1) cap, .int .i64 en, .string nm, .int .i64 pv, vs, va] ∧ w.rangeAt g off (wdc d) ∧ ∀ (k : Nat) (x : Wd), r[k]? = some x → w.rangeAt g (off + 4 + k * 4) (wdc x) := by
  obtain ⟨vw, L, ao, cap, rfl, h1, h2, h3⟩ := h
  obtain ⟨g, off, rfl, hg, hr⟩ := h3 0 d rfl
  refine ⟨g, off, cap, hg, L.lt, h1, h2, L, by simpa using hr, fun k x hx => ?_⟩
  obtain ⟨g', off', e, -, hr'⟩ := h3 (k + 1) x (by simpa using hx)
  simp only [Option.some.injEq, Addr.mk.injEq, and_true] at e
  obtain ⟨rfl, rfl⟩ := e
  rw [show off + 4 + k * 4 = off + (k + 1) * 4 by omega]
  exact hr'
/-- one word less -/
theorem RdW.next {b g off cap : Nat} {w : World} {r : List Wd} {en : Int} {nm : ByteArray} {pv : Int} {vs va : Value} (hg : g < b) (h1 : r.length + 1 ≤ cap) (h2 : cap ≤ maxLen) (L : LB w b 43 [.slice (some ⟨g, off, none⟩) (r.length + 1) cap, .int .i64 en, .string nm, .int .i64 pv, vs, va]) (h3 : ∀ (k : Nat) (x : Wd), r[k]? = some x → w.rangeAt g (off + 4 + k * 4) (wdc x)) (ao : Option Addr) (e : r ≠ [] → ao = some ⟨g, off + 4, none⟩) :
    RdW b (w.setCell ⟨b, 0, none⟩ (.slice ao r.length (cap - 1))) r en nm pv vs va := by
  refine ⟨_, L.set 0 _, ao, cap - 1, rfl, by omega, by omega, fun k x hx => ⟨g, off + 4, e (fun e => by subst e; simp at hx), hg, fun j u hu => ?_⟩⟩
  rw [World.cell?_of_block (a := ⟨g, off + 4 + k * 4 + j, none⟩) (set_other w ⟨b, 0, none⟩ _ g (Nat.ne_of_lt hg))]
  exact h3 k x hx j u hu
set_option maxRecDepth 100000 in
set_option maxHeartbeats 4000000 in
theorem take_yes (b : Nat) (d : Wd) (r : List Wd) (en : Int) (nm : ByteArray) (pv : Int) (vs va : Value) (w : World) (h : RdW b w (d :: r) en nm pv vs va) :
    Calls Tryz.prog 33 #[.pointer (some ⟨b, 0, none⟩), .int .i64 d.k] w fun e w' => e = .returned (.tuple #[wdV d, .bool true]) ∧ RdW b w' r en nm pv vs va ∧ Chg b w w' := by
  obtain ⟨g, off, cap, hg, hb, h1, h2, L, h3, h4⟩ := h.facts
  have HN : Hid (∀ ao, (r ≠ [] → ao = some ⟨g, off + 4, none⟩) → RdW b (w.setCell ⟨b, 0, none⟩ (.slice ao r.length (cap - 1))) r en nm pv vs va ∧ Chg b w (w.setCell ⟨b, 0, none⟩ (.slice ao r.length (cap - 1)))) := fun ao e => ⟨RdW.next hg h1 h2 L h4 ao e, Chg.set _ _ _ _⟩
  have HU : Hid (∀ W o, RdW b W r en nm pv vs va ∧ Chg b w W → RdW b (W.alloc o) r en nm pv vs va ∧ Chg b w (W.alloc o)) := fun W o hh => ⟨hh.1.kept (up0 _ _), hh.2.trans (Chg.of hh.1.lt (up0 _ _))⟩
  have hne : b ≠ w.heap.size := Nat.ne_of_lt hb
  have hne2 : b ≠ w.heap.size + 1 := by omega
  have hgne : g ≠ w.heap.size := by omega
  have hgne2 : g ≠ w.heap.size + 1 := by omega
  have hgb : g ≠ b := Nat.ne_of_lt hg
  have c0 : ∀ o, (w.alloc o).cell? ⟨b, 0, none⟩ = some (.slice (some ⟨g, off, none⟩) (r.length + 1) cap) := fun o => (L.kept (up0 w o)).cell 0 _ rfl
  have f0 : ∀ o o2, ((w.alloc o).alloc o2).frozen? ⟨b, 0, none⟩ = false := fun o o2 => ((L.kept (up0 w o)).kept (up0 _ o2)).free 0
  have d0 : ∀ o o2, ((w.alloc o).alloc o2).cell? ⟨b, 0, none⟩ = some (.slice (some ⟨g, off, none⟩) (r.length + 1) cap) := fun o o2 => ((L.kept (up0 w o)).kept (up0 _ o2)).cell 0 _ rfl
  have x0 : ∀ o, (w.alloc o).cell? ⟨g, off, none⟩ = some (.int .i64 d.k) := fun o => (range_kept h3 (up0 w o)) 0 _ rfl
  have x1 : ∀ o, (w.alloc o).cell? ⟨g, off + 1, none⟩ = some (.int .i64 d.at_) := fun o => (range_kept h3 (up0 w o)) 1 _ rfl
  have x2 : ∀ o, (w.alloc o).cell? ⟨g, off + 2, none⟩ = some (.string d.t) := fun o => (range_kept h3 (up0 w o)) 2 _ rfl
  have x3 : ∀ o, (w.alloc o).cell? ⟨g, off + 3, none⟩ = some (.int .i64 d.n) := fun o => (range_kept h3 (up0 w o)) 3 _ rfl
  unfold maxLen at h2
  unfold wdV
  clear h h3 h4 L
  go_enter Tryz.func33, Tryz.ntmps33
  go_wp2
  all_goals refine bodyPost_ret (by simp [results, Tryz.results33, go_sem]; try rfl) rfl ?_
  · subst h
    have hr : r = [] := List.eq_nil_of_length_eq_zero (by omega)
    exact ⟨rfl, HU.out _ _ (HU.out _ _ (HN.out _ (fun e => absurd hr e)))⟩
  · exact ⟨rfl, HU.out _ _ (HU.out _ _ (HN.out _ (fun _ => rfl)))⟩
/-- the reader without a word -/
theorem RdW.none {b : Nat} {w : World} {en : Int} {nm : ByteArray} {pv : Int} {vs va : Value} (h : RdW b w [] en nm pv vs va) : ∃ ao, ∃ cap : Nat, LB w b 43 [.slice ao 0 cap, .int .i64 en, .string nm, .int .i64 pv, vs, va] := by
  obtain ⟨vw, L, ao, cap, rfl, -⟩ := h
  exact ⟨ao, cap, L⟩
set_option maxRecDepth 100000 in
set_option maxHeartbeats 4000000 in
theorem take_no (b : Nat) (k : Int) (ws : List Wd) (en : Int) (nm : ByteArray) (pv : Int) (vs va : Value) (w : World) (h : RdW b w ws en nm pv vs va) (hk : takeP k ws = none) :
    Calls Tryz.prog 33 #[.pointer (some ⟨b, 0, none⟩), .int .i64 k] w fun e w' => e = .returned (.tuple #[wdV wdZ, .bool false]) ∧ Below w.heap.size w w' := by
  have HB : Hid (∀ o, Below w.heap.size w (w.alloc o)) := fun o => up0 w o
  unfold wdV wdZ
  cases ws with
  | nil =>
    obtain ⟨ao, cap, L⟩ := h.none
    have c0 : ∀ o, (w.alloc o).cell? ⟨b, 0, none⟩ = some (.slice ao 0 cap) := fun o => (L.kept (up0 w o)).cell 0 _ rfl
    clear h L hk
    go_enter Tryz.func33, Tryz.ntmps33
    go_wp2
    refine bodyPost_ret (by simp [results, Tryz.results33, go_sem]; try rfl) rfl ?_
    exact ⟨rfl, HB.out _⟩
  | cons d r =>
    have hne : ¬ d.k = k := fun e => by rw [takeP, if_pos e] at hk; cases hk
    have hne2 : (d.k != k) = true := by simp [hne]
    obtain ⟨g, off, cap, hg, hb, h1, h2, L, h3, h4⟩ := h.facts
    have c0 : ∀ o, (w.alloc o).cell? ⟨b, 0, none⟩ = some (.slice (some ⟨g, off, none⟩) (r.length + 1) cap) := fun o => (L.kept (up0 w o)).cell 0 _ rfl
    have x0 : ∀ o, (w.alloc o).cell? ⟨g, off, none⟩ = some (.int .i64 d.k) := fun o => (range_kept h3 (up0 w o)) 0 _ rfl
    unfold maxLen at h2
    clear h h3 h4 L hk hne
    go_enter Tryz.func33, Tryz.ntmps33
    go_wp2
    refine bodyPost_ret (by simp [results, Tryz.results33, go_sem]; try rfl) rfl ?_
    exact ⟨rfl, HB.out _⟩
set_option maxRecDepth 100000 in
set_option maxHeartbeats 4000000 in
theorem sign_yes (b : Nat) (t : ByteArray) (ws r : List Wd) (en : Int) (nm : ByteArray) (pv : Int) (vs va : Value) (w : World) (h : RdW b w ws en nm pv vs va) (hk : signP t ws = some r) :
    Calls Tryz.prog 34 #[.pointer (some ⟨b, 0, none⟩), .string t] w fun e w' => e = .returned (.bool true) ∧ RdW b w' r en nm pv vs va ∧ Chg b w w' := by
  obtain ⟨d, rfl, hd, ht⟩ := signP_len hk
  have HT : Hid (Calls Tryz.prog 33 #[.pointer (some ⟨b, 0, none⟩), .int .i64 4] w fun e w' => e = .returned (.tuple #[wdV d, .bool true]) ∧ RdW b w' r en nm pv vs va ∧ Chg b w w') := by
    have e := take_yes b d r en nm pv vs va w h
    rw [hd] at e
    exact e
  unfold wdV at HT
  obtain ⟨g, off, cap, hg, hb, h1, h2, L, h3, h4⟩ := h.facts
  have c0 : w.cell? ⟨b, 0, none⟩ = some (.slice (some ⟨g, off, none⟩) (r.length + 1) cap) := L.cell 0 _ rfl
  have x2 : w.cell? ⟨g, off + 2, none⟩ = some (.string d.t) := h3 2 _ rfl
  unfold maxLen at h2
  clear h h3 h4 L hk hd
  go_enter Tryz.func34, Tryz.ntmps34
  go_wp2_with fail
  refine HT.out.mono ?_
  rintro e w1 ⟨rfl, r1, g1⟩
  have H1 : Hid (∀ o, RdW b (w1.alloc o) r en nm pv vs va ∧ Chg b w (w1.alloc o)) := fun o => ⟨r1.kept (up0 _ _), g1.trans (Chg.of r1.lt (up0 _ _))⟩
  clear r1 g1 HT
  go_wp2_with fail
  go_ret
  exact ⟨rfl, H1.out _⟩
set_option maxRecDepth 100000 in
set_option maxHeartbeats 4000000 in
theorem sign_no (b : Nat) (t : ByteArray) (ws : List Wd) (en : Int) (nm : ByteArray) (pv : Int) (vs va : Value) (w : World) (h : RdW b w ws en nm pv vs va) (hk : signP t ws = none) :
    Calls Tryz.prog 34 #[.pointer (some ⟨b, 0, none⟩), .string t] w fun e w' => e = .returned (.bool false) ∧ Below w.heap.size w w' := by
  have HB : Hid (Below w.heap.size w w) := Below.refl _ _
  cases ws with
  | nil =>
    obtain ⟨ao, cap, L⟩ := h.none
    have c0 := L.cell 0 _ rfl
    clear h L hk
    go_enter Tryz.func34, Tryz.ntmps34
    go_wp2
    go_ret
    exact ⟨rfl, HB.out⟩
  | cons d r =>
    obtain ⟨g, off, cap, hg, hb, h1, h2, L, h3, h4⟩ := h.facts
    have c0 : w.cell? ⟨b, 0, none⟩ = some (.slice (some ⟨g, off, none⟩) (r.length + 1) cap) := L.cell 0 _ rfl
    have x2 : w.cell? ⟨g, off + 2, none⟩ = some (.string d.t) := h3 2 _ rfl
    unfold maxLen at h2
    cases ht : (d.t.toList == t.toList) with
    | false =>
      clear h h3 h4 L hk
      go_enter Tryz.func34, Tryz.ntmps34
      go_wp2_with fail
      go_ret
      exact ⟨rfl, HB.out⟩
    | true =>
      have hd : takeP 4 (d :: r) = none := by
        rw [takeP]
        split
        · rename_i e
          rw [signP, if_pos ⟨ht, e⟩] at hk
          cases hk
        · rfl
      have HT : Hid (Calls Tryz.prog 33 #[.pointer (some ⟨b, 0, none⟩), .int .i64 4] w fun e w' => e = .returned (.tuple #[wdV wdZ, .bool false]) ∧ Below w.heap.size w w') := take_no b 4 _ en nm pv vs va w h hd
      unfold wdV wdZ at HT
      clear h h3 h4 L hk hd
      go_enter Tryz.func34, Tryz.ntmps34
      go_wp2_with fail
      refine HT.out.mono ?_
      rintro e w1 ⟨rfl, b1⟩
      have H1 : Hid (∀ o, Below w.heap.size w (w1.alloc o)) := fun o => up b1 o
      clear b1 HT
      go_wp2_with fail
      go_ret
      exact ⟨rfl, H1.out _⟩
theorem place_any (b : Nat) (ws : List Wd) (n : Nat) (nm : ByteArray) (pv : Int) (vs va : Value) (w : World) (h : RdW b w ws (n : Int) nm pv vs va) :
    Calls Tryz.prog 15 #[.pointer (some ⟨b, 0, none⟩)] w fun e w' => e = .returned (.int .i64 (placeP ws n)) ∧ Below w.heap.size w w' := by
  have HB : Hid (Below w.heap.size w w) := Below.refl _ _
  cases ws with
  | nil =>
    obtain ⟨ao, cap, L⟩ := h.none
    have c0 := L.cell 0 _ rfl
    have c1 := L.cell 1 _ rfl
    clear h L
    go_enter Tryz.func15, Tryz.ntmps15
    go_wp2
    go_ret
    exact ⟨rfl, HB.out⟩
  | cons d r =>
    obtain ⟨g, off, cap, hg, hb, h1, h2, L, h3, h4⟩ := h.facts
    have c0 : w.cell? ⟨b, 0, none⟩ = some (.slice (some ⟨g, off, none⟩) (r.length + 1) cap) := L.cell 0 _ rfl
    have x1 : w.cell? ⟨g, off + 1, none⟩ = some (.int .i64 d.at_) := h3 1 _ rfl
    unfold maxLen at h2
    clear h h3 h4 L
    go_enter Tryz.func15, Tryz.ntmps15
    go_wp2
    go_ret
    exact ⟨rfl, HB.out⟩
end Go.Proofs.YtcnnpohnfoaceaaGreatDoor

/-
  Package plan: the reader's tries, ending.
-/
namespace Go.Proofs.YtcnnpohnfoaceaaGreatDoor
open Go Go.RowKit
open Wb
open Text.Tx (Wd wdc wds wordP wdA)

def stc (x u : ByteArray) (t : Int) : List Value := [.string x, .string u, .int .i64 t]
/-- what tries, ending leave: the reader's words, the step -/
def StpPost (b c : Nat) (en : Int) (nm : ByteArray) (pv : Int) (vs va : Value) (w : World) (x u : ByteArray) (t : Int) (r : List Wd) (e : Ending) (w' : World) : Prop := e = .returned (.bool true) ∧ RdW b w' r en nm pv vs va ∧ LB w' c 60 (stc x u t) ∧ Ch2 b c w w'
def ErrPost (b : Nat) (en : Int) (w : World) (r : List Wd) (e : Ending) (w' : World) : Prop := e = .returned (.bool false) ∧ (∃ nm pv vs va, RdW b w' r en nm pv vs va) ∧ Below b w w'
theorem takeY (b : Nat) (k : Int) (d : Wd) (r : List Wd) (en : Int) (nm : ByteArray) (pv : Int) (vs va : Value) (w : World) (h : RdW b w (d :: r) en nm pv vs va) (hk : d.k = k) :
    Calls Tryz.prog 33 #[.pointer (some ⟨b, 0, none⟩), .int .i64 k] w fun e w' => e = .returned (.tuple #[.agg #[.int .i64 d.k, .int .i64 d.at_, .string d.t, .int .i64 d.n], .bool true]) ∧ RdW b w' r en nm pv vs va ∧ Chg b w w' := by
  subst hk
  exact take_yes b d r en nm pv vs va w h
/-- a cell of the step is another -/
theorem stp_set {b c : Nat} {w W : World} {r : List Wd} {en : Int} {nm : ByteArray} {pv : Int} {vs va : Value} {D : List Value} (hc : b < c) (R : RdW b W r en nm pv vs va) (L : LB W c 60 D) (G : Ch2 b c w W) (j : Nat) (v : Value) (o : Obj) :
    RdW b ((W.alloc o).setCell ⟨c, j, none⟩ v) r en nm pv vs va ∧ LB ((W.alloc o).setCell ⟨c, j, none⟩ v) c 60 (D.set j v) ∧ Ch2 b c w ((W.alloc o).setCell ⟨c, j, none⟩ v) := by
  have R1 := R.kept (up0 W o)
  refine ⟨R1.same fun g hg => set_other _ _ _ _ (by show g ≠ c; omega), (L.kept (up0 W o)).set j v, (G.trans ((Chg.of R.lt (up0 W o)).two c)).trans (Ch2.set (Nat.le_of_lt hc) j _ v)⟩
set_option maxRecDepth 100000 in
set_option maxHeartbeats 4000000 in
theorem tries_ok (b c : Nat) (ws : List Wd) (en : Int) (nm : ByteArray) (pv : Int) (vs va : Value) (x u : ByteArray) (t : Int) (w : World) (h : RdW b w ws en nm pv vs va) (L : LB w c 60 (stc x u t)) (hc : b < c) (t' : Int) (r : List Wd) (hk : triesP t ws = .ok (t', r)) :
    Calls Tryz.prog 60 #[.pointer (some ⟨b, 0, none⟩), .pointer (some ⟨c, 0, none⟩)] w fun e w' => StpPost b c en nm pv vs va w x u t' r e w' := by
  have hbc : c ≠ b := Nat.ne_of_gt hc
  unfold triesP at hk
  cases hs : signP ⟨#[42]⟩ ws with
  | none =>
    rw [hs] at hk
    injection hk with hk
    injection hk with e1 e2
    subst e1
    subst e2
    have HS : Hid (Calls Tryz.prog 34 #[.pointer (some ⟨b, 0, none⟩), .string ⟨#[42]⟩] w fun e w' => e = .returned (.bool false) ∧ Below w.heap.size w w') := sign_no b _ ws en nm pv vs va w h hs
    have HF : Hid (∀ w', Below w.heap.size w w' → StpPost b c en nm pv vs va w x u t ws (.returned (.bool true)) w') := fun w' hb => ⟨rfl, h.kept hb, L.kept hb, (Chg.of h.lt hb).two c⟩
    clear h L hs
    go_enter Tryz.func60, Tryz.ntmps60
    go_wp2_with fail
    refine HS.out.mono ?_
    rintro e w1 ⟨rfl, b1⟩
    have H1 : Hid (StpPost b c en nm pv vs va w x u t ws (.returned (.bool true)) w1) := HF.out _ b1
    clear b1 HS HF
    go_wp2_with fail
    go_ret
    exact H1.out
  | some w2 =>
    rw [hs] at hk
    simp only at hk
    cases ht : takeP 2 w2 with
    | none => rw [ht] at hk; cases hk
    | some p =>
    obtain ⟨d, r2⟩ := p
    rw [ht] at hk
    injection hk with hk
    injection hk with e1 e2
    subst e1
    subst e2
    obtain ⟨rfl, hd⟩ := takeP_len ht
    have HS : Hid (Calls Tryz.prog 34 #[.pointer (some ⟨b, 0, none⟩), .string ⟨#[42]⟩] w fun e w' => e = .returned (.bool true) ∧ RdW b w' (d :: r2) en nm pv vs va ∧ Chg b w w') := sign_yes b _ ws (d :: r2) en nm pv vs va w h hs
    have HT : Hid (∀ w', RdW b w' (d :: r2) en nm pv vs va → Calls Tryz.prog 33 #[.pointer (some ⟨b, 0, none⟩), .int .i64 2] w' fun e w'' => e = .returned (.tuple #[.agg #[.int .i64 d.k, .int .i64 d.at_, .string d.t, .int .i64 d.n], .bool true]) ∧ RdW b w'' r2 en nm pv vs va ∧ Chg b w' w'') := fun w' k => takeY b 2 d r2 en nm pv vs va w' k hd
    have HL : Hid (∀ w', Chg b w w' → LB w' c 60 (stc x u t)) := fun w' g => g.lb hbc L
    clear h L hs ht hd
    go_enter Tryz.func60, Tryz.ntmps60
    go_wp2_with fail
    refine HS.out.mono ?_
    rintro e w1 ⟨rfl, r1, g1⟩
    have H1 : Hid (RdW b w1 (d :: r2) en nm pv vs va ∧ LB w1 c 60 (stc x u t) ∧ Chg b w w1) := ⟨r1, HL.out _ g1, g1⟩
    clear r1 g1 HS HL
    go_wp2_with fail
    refine (HT.out _ H1.out.1).mono ?_
    rintro e w3 ⟨rfl, r3, g3⟩
    have H3 : Hid (RdW b w3 r2 en nm pv vs va ∧ LB w3 c 60 (stc x u t) ∧ Chg b w w3) := ⟨r3, g3.lb hbc H1.out.2.1, H1.out.2.2.trans g3⟩
    have c2 : ∀ o, (w3.alloc o).cell? ⟨c, 2, none⟩ = some (.int .i64 t) := fun o => (H3.out.2.1.kept (up0 _ o)).cell 2 _ rfl
    have f2 : ∀ o, (w3.alloc o).frozen? ⟨c, 2, none⟩ = false := fun o => (H3.out.2.1.kept (up0 _ o)).free 2
    have HE : Hid (∀ o, StpPost b c en nm pv vs va w x u d.n r2 (.returned (.bool true)) ((w3.alloc o).setCell ⟨c, 2, none⟩ (.int .i64 d.n))) := fun o => ⟨rfl, stp_set hc H3.out.1 H3.out.2.1 (H3.out.2.2.two c) 2 _ o⟩
    clear r3 g3 H1 HT H3
    go_wp2_with fail
    go_ret
    exact HE.out _
set_option maxRecDepth 100000 in
set_option maxHeartbeats 4000000 in
theorem tries_err (b c : Nat) (ws : List Wd) (en : Int) (nm : ByteArray) (pv : Int) (vs va : Value) (x u : ByteArray) (t : Int) (w : World) (h : RdW b w ws en nm pv vs va) (L : LB w c 60 (stc x u t)) (hc : b < c) (r : List Wd) (hk : triesP t ws = .error r) :
    Calls Tryz.prog 60 #[.pointer (some ⟨b, 0, none⟩), .pointer (some ⟨c, 0, none⟩)] w fun e w' => ErrPost b en w r e w' := by
  have hbc : c ≠ b := Nat.ne_of_gt hc
  unfold triesP at hk
  cases hs : signP ⟨#[42]⟩ ws with
  | none => rw [hs] at hk; cases hk
  | some w2 =>
    rw [hs] at hk
    simp only at hk
    cases ht : takeP 2 w2 with
    | some p => rw [ht] at hk; cases hk
    | none =>
    rw [ht] at hk
    injection hk with e1
    subst e1
    have HS : Hid (Calls Tryz.prog 34 #[.pointer (some ⟨b, 0, none⟩), .string ⟨#[42]⟩] w fun e w' => e = .returned (.bool true) ∧ RdW b w' w2 en nm pv vs va ∧ Chg b w w') := sign_yes b _ ws w2 en nm pv vs va w h hs
    have HT : Hid (∀ w', RdW b w' w2 en nm pv vs va → Calls Tryz.prog 33 #[.pointer (some ⟨b, 0, none⟩), .int .i64 2] w' fun e w'' => e = .returned (.tuple #[.agg #[.int .i64 0, .int .i64 0, .string ⟨#[]⟩, .int .i64 0], .bool false]) ∧ Below w'.heap.size w' w'') := fun w' k => take_no b 2 w2 en nm pv vs va w' k ht
    have HL : Hid (∀ w', Chg b w w' → LB w' c 60 (stc x u t)) := fun w' g => g.lb hbc L
    clear h L hs ht
    go_enter Tryz.func60, Tryz.ntmps60
    go_wp2_with fail
    refine HS.out.mono ?_
    rintro e w1 ⟨rfl, r1, g1⟩
    have H1 : Hid (RdW b w1 w2 en nm pv vs va ∧ LB w1 c 60 (stc x u t) ∧ Chg b w w1) := ⟨r1, HL.out _ g1, g1⟩
    clear r1 g1 HS HL
    go_wp2_with fail
    refine (HT.out _ H1.out.1).mono ?_
    rintro e w3 ⟨rfl, b3⟩
    have H3 : Hid (RdW b w3 w2 en nm pv vs va ∧ LB w3 c 60 (stc x u t) ∧ Chg b w w3) := ⟨H1.out.1.kept b3, H1.out.2.1.kept b3, H1.out.2.2.trans (Chg.of H1.out.1.lt b3)⟩
    have c2 : ∀ o, (w3.alloc o).cell? ⟨c, 2, none⟩ = some (.int .i64 t) := fun o => (H3.out.2.1.kept (up0 _ o)).cell 2 _ rfl
    have f2 : ∀ o, (w3.alloc o).frozen? ⟨c, 2, none⟩ = false := fun o => (H3.out.2.1.kept (up0 _ o)).free 2
    have HE : Hid (∀ o, ErrPost b en w w2 (.returned (.bool false)) ((w3.alloc o).setCell ⟨c, 2, none⟩ (.int .i64 0))) := fun o => by
      obtain ⟨q1, -, q3⟩ := stp_set hc H3.out.1 H3.out.2.1 (H3.out.2.2.two c) 2 (.int .i64 0) o
      exact ⟨rfl, ⟨_, _, _, _, q1⟩, q3.1⟩
    clear b3 H1 HT H3
    go_wp2_with fail
    go_ret
    exact HE.out _
set_option maxRecDepth 100000 in
set_option maxHeartbeats 4000000 in
theorem end_ok (b c : Nat) (ws : List Wd) (en : Int) (nm : ByteArray) (pv : Int) (vs va : Value) (x u : ByteArray) (t : Int) (w : World) (h : RdW b w ws en nm pv vs va) (L : LB w c 60 (stc x u t)) (hc : b < c) (n : Nat) (av : Option Addr) (cs : Nat) (hv : vs = .slice av n cs) (hn : n ≤ 1000000) (u' : ByteArray) (pv' : Int) (r : List Wd) (hk : endP pv n ws = .ok (u', pv', r)) (hu : u = ⟨#[]⟩) :
    Calls Tryz.prog 61 #[.pointer (some ⟨b, 0, none⟩), .pointer (some ⟨c, 0, none⟩)] w fun e w' => StpPost b c en nm pv' vs va w x u' t r e w' := by
  subst hu
  subst hv
  have hbc : c ≠ b := Nat.ne_of_gt hc
  have p3 : ∀ w', RdW b w' ws en nm pv (.slice av n cs) va → w'.cell? ⟨b, 3, none⟩ = some (.int .i64 pv) ∧ w'.cell? ⟨b, 4, none⟩ = some (.slice av n cs) := fun w' k => by
    obtain ⟨vw, l, -⟩ := k
    exact ⟨l.cell 3 _ rfl, l.cell 4 _ rfl⟩
  have HP : Hid (∀ (w' : World) (r : List Wd), RdW b w' r en nm pv (.slice av n cs) va → w'.cell? ⟨b, 3, none⟩ = some (.int .i64 pv) ∧ w'.cell? ⟨b, 4, none⟩ = some (.slice av n cs) ∧ w'.frozen? ⟨b, 3, none⟩ = false) := fun w' r k => by
    obtain ⟨vw, l, -⟩ := k
    exact ⟨l.cell 3 _ rfl, l.cell 4 _ rfl, l.free 3⟩
  obtain ⟨q3, q4⟩ := p3 w h
  clear p3
  have HLT : Hid (b < w.heap.size) := h.lt
  have HL : Hid (∀ w', Chg b w w' → LB w' c 60 (stc x ⟨#[]⟩ t)) := fun w' g => g.lb hbc L
  have HH : Hid (RdW b w ws en nm pv (.slice av n cs) va) := h
  unfold endP at hk
  by_cases hp : pv = 0
  · rw [if_pos hp] at hk
    have hp2 : (pv == 0) = true := by rw [hp]; rfl
    cases hs : signP ⟨#[33]⟩ ws with
    | some w2 =>
      rw [hs] at hk
      injection hk with hk
      injection hk with e1 e2
      injection e2 with e2 e3
      subst e1
      subst e2
      subst e3
      have HS : Hid (Calls Tryz.prog 34 #[.pointer (some ⟨b, 0, none⟩), .string ⟨#[33]⟩] w fun e w' => e = .returned (.bool true) ∧ RdW b w' w2 en nm pv (.slice av n cs) va ∧ Chg b w w') := sign_yes b _ ws w2 en nm pv _ va w h hs
      clear h L hs hp HH
      go_enter Tryz.func61, Tryz.ntmps61
      go_wp2_with fail
      refine HS.out.mono ?_
      rintro e w1 ⟨rfl, r1, g1⟩
      have H1 : Hid (RdW b w1 w2 en nm pv (.slice av n cs) va ∧ LB w1 c 60 (stc x ⟨#[]⟩ t) ∧ Chg b w w1) := ⟨r1, HL.out _ g1, g1⟩
      obtain ⟨y3, y4, y5⟩ := HP.out _ _ r1
      clear r1 g1 HS HL q3 q4
      have HE : Hid (StpPost b c en nm ((n : Int) + 1) (.slice av n cs) va w x ⟨#[]⟩ t w2 (.returned (.bool true)) (w1.setCell ⟨b, 3, none⟩ (.int .i64 ((n : Int) + 1)))) := ⟨rfl, H1.out.1.pivot _, H1.out.2.1.other _ _ hbc, (H1.out.2.2.two c).trans (Ch2.set1 3 w1 _)⟩
      clear H1
      go_wp2_with fail
      go_ret
      exact HE.out
    | none =>
      rw [hs] at hk
      simp only at hk
      have HS1 : Hid (Calls Tryz.prog 34 #[.pointer (some ⟨b, 0, none⟩), .string ⟨#[33]⟩] w fun e w' => e = .returned (.bool false) ∧ Below w.heap.size w w') := sign_no b _ ws en nm pv _ va w h hs
      clear hs hp
      cases hs : signP ⟨#[126]⟩ ws with
      | none =>
        rw [hs] at hk
        injection hk with hk
        injection hk with e1 e2
        injection e2 with e2 e3
        subst e1
        subst e2
        subst e3
        have HS : Hid (∀ w', RdW b w' ws en nm pv (.slice av n cs) va → Calls Tryz.prog 34 #[.pointer (some ⟨b, 0, none⟩), .string ⟨#[126]⟩] w' fun e w'' => e = .returned (.bool false) ∧ Below w'.heap.size w' w'') := fun w' k => sign_no b _ ws en nm pv _ va w' k hs
        have HF : Hid (∀ w', Below w.heap.size w w' → StpPost b c en nm pv (.slice av n cs) va w x ⟨#[]⟩ t ws (.returned (.bool true)) w') := fun w' hb => ⟨rfl, h.kept hb, L.kept hb, (Chg.of h.lt hb).two c⟩
        clear h L hs
        go_enter Tryz.func61, Tryz.ntmps61
        go_wp2_with fail
        refine HS1.out.mono ?_
        rintro e w0 ⟨rfl, b0⟩
        have K0 : Hid (RdW b w0 ws en nm pv (.slice av n cs) va ∧ Below w.heap.size w w0) := ⟨HH.out.kept b0, b0⟩
        clear b0 HS1
        go_wp2_with fail
        refine (HS.out _ K0.out.1).mono ?_
        rintro e w1 ⟨rfl, b1⟩
        have H1 : Hid (StpPost b c en nm pv (.slice av n cs) va w x ⟨#[]⟩ t ws (.returned (.bool true)) w1) := HF.out _ (andThen K0.out.2 b1)
        clear b1 HS HF K0
        go_wp2_with fail
        go_ret
        exact H1.out
      | some w2 =>
        rw [hs] at hk
        simp only at hk
        cases ht : takeP 1 w2 with
        | none => rw [ht] at hk; cases hk
        | some p =>
        obtain ⟨d, r2⟩ := p
        rw [ht] at hk
        injection hk with hk
        injection hk with e1 e2
        injection e2 with e2 e3
        subst e1
        subst e2
        subst e3
        obtain ⟨rfl, hd⟩ := takeP_len ht
        have HS : Hid (∀ w', RdW b w' ws en nm pv (.slice av n cs) va → Calls Tryz.prog 34 #[.pointer (some ⟨b, 0, none⟩), .string ⟨#[126]⟩] w' fun e w'' => e = .returned (.bool true) ∧ RdW b w'' (d :: r2) en nm pv (.slice av n cs) va ∧ Chg b w' w'') := fun w' k => sign_yes b _ ws (d :: r2) en nm pv _ va w' k hs
        have HT : Hid (∀ w', RdW b w' (d :: r2) en nm pv (.slice av n cs) va → Calls Tryz.prog 33 #[.pointer (some ⟨b, 0, none⟩), .int .i64 1] w' fun e w'' => e = .returned (.tuple #[.agg #[.int .i64 d.k, .int .i64 d.at_, .string d.t, .int .i64 d.n], .bool true]) ∧ RdW b w'' r2 en nm pv (.slice av n cs) va ∧ Chg b w' w'') := fun w' k => takeY b 1 d r2 en nm pv _ va w' k hd
        clear h L hs ht hd
        go_enter Tryz.func61, Tryz.ntmps61
        go_wp2_with fail
        refine HS1.out.mono ?_
        rintro e w0 ⟨rfl, b0⟩
        have K0 : Hid (RdW b w0 ws en nm pv (.slice av n cs) va ∧ Below w.heap.size w w0) := ⟨HH.out.kept b0, b0⟩
        clear b0 HS1
        go_wp2_with fail
        refine (HS.out _ K0.out.1).mono ?_
        rintro e w1 ⟨rfl, r1, g1⟩
        have H1 : Hid (RdW b w1 (d :: r2) en nm pv (.slice av n cs) va ∧ LB w1 c 60 (stc x ⟨#[]⟩ t) ∧ Chg b w w1) := ⟨r1, HL.out _ ((Chg.of HLT.out K0.out.2).trans g1), (Chg.of HLT.out K0.out.2).trans g1⟩
        clear r1 g1 HS HL K0
        go_wp2_with fail
        refine (HT.out _ H1.out.1).mono ?_
        rintro e w3 ⟨rfl, r3, g3⟩
        have H3 : Hid (RdW b w3 r2 en nm pv (.slice av n cs) va ∧ LB w3 c 60 (stc x ⟨#[]⟩ t) ∧ Chg b w w3) := ⟨r3, g3.lb hbc H1.out.2.1, H1.out.2.2.trans g3⟩
        have c2 : ∀ o, (w3.alloc o).cell? ⟨c, 1, none⟩ = some (.string ⟨#[]⟩) := fun o => (H3.out.2.1.kept (up0 _ o)).cell 1 _ rfl
        have f2 : ∀ o, (w3.alloc o).frozen? ⟨c, 1, none⟩ = false := fun o => (H3.out.2.1.kept (up0 _ o)).free 1
        have HE : Hid (∀ o, StpPost b c en nm pv (.slice av n cs) va w x d.t t r2 (.returned (.bool true)) ((w3.alloc o).setCell ⟨c, 1, none⟩ (.string d.t))) := fun o => ⟨rfl, stp_set hc H3.out.1 H3.out.2.1 (H3.out.2.2.two c) 1 _ o⟩
        clear r3 g3 H1 HT H3
        go_wp2_with fail
        go_ret
        exact HE.out _
  · rw [if_neg hp] at hk
    have hp2 : (pv == 0) = false := beq_eq_false_iff_ne.2 hp
    simp only at hk
    clear hp
    cases hs : signP ⟨#[126]⟩ ws with
    | none =>
      rw [hs] at hk
      injection hk with hk
      injection hk with e1 e2
      injection e2 with e2 e3
      subst e1
      subst e2
      subst e3
      have HS : Hid (∀ w', RdW b w' ws en nm pv (.slice av n cs) va → Calls Tryz.prog 34 #[.pointer (some ⟨b, 0, none⟩), .string ⟨#[126]⟩] w' fun e w'' => e = .returned (.bool false) ∧ Below w'.heap.size w' w'') := fun w' k => sign_no b _ ws en nm pv _ va w' k hs
      have HF : Hid (∀ w', Below w.heap.size w w' → StpPost b c en nm pv (.slice av n cs) va w x ⟨#[]⟩ t ws (.returned (.bool true)) w') := fun w' hb => ⟨rfl, h.kept hb, L.kept hb, (Chg.of h.lt hb).two c⟩
      clear h L hs
      go_enter Tryz.func61, Tryz.ntmps61
      go_wp2_with fail
      have K0 : Hid (RdW b w ws en nm pv (.slice av n cs) va ∧ Below w.heap.size w w) := ⟨HH.out, Below.refl _ _⟩
      refine (HS.out _ K0.out.1).mono ?_
      rintro e w1 ⟨rfl, b1⟩
      have H1 : Hid (StpPost b c en nm pv (.slice av n cs) va w x ⟨#[]⟩ t ws (.returned (.bool true)) w1) := HF.out _ (andThen K0.out.2 b1)
      clear b1 HS HF K0
      go_wp2_with fail
      go_ret
      exact H1.out
    | some w2 =>
      rw [hs] at hk
      simp only at hk
      cases ht : takeP 1 w2 with
      | none => rw [ht] at hk; cases hk
      | some p =>
      obtain ⟨d, r2⟩ := p
      rw [ht] at hk
      injection hk with hk
      injection hk with e1 e2
      injection e2 with e2 e3
      subst e1
      subst e2
      subst e3
      obtain ⟨rfl, hd⟩ := takeP_len ht
      have HS : Hid (∀ w', RdW b w' ws en nm pv (.slice av n cs) va → Calls Tryz.prog 34 #[.pointer (some ⟨b, 0, none⟩), .string ⟨#[126]⟩] w' fun e w'' => e = .returned (.bool true) ∧ RdW b w'' (d :: r2) en nm pv (.slice av n cs) va ∧ Chg b w' w'') := fun w' k => sign_yes b _ ws (d :: r2) en nm pv _ va w' k hs
      have HT : Hid (∀ w', RdW b w' (d :: r2) en nm pv (.slice av n cs) va → Calls Tryz.prog 33 #[.pointer (some ⟨b, 0, none⟩), .int .i64 1] w' fun e w'' => e = .returned (.tuple #[.agg #[.int .i64 d.k, .int .i64 d.at_, .string d.t, .int .i64 d.n], .bool true]) ∧ RdW b w'' r2 en nm pv (.slice av n cs) va ∧ Chg b w' w'') := fun w' k => takeY b 1 d r2 en nm pv _ va w' k hd
      clear h L hs ht hd
      go_enter Tryz.func61, Tryz.ntmps61
      go_wp2_with fail
      have K0 : Hid (RdW b w ws en nm pv (.slice av n cs) va ∧ Below w.heap.size w w) := ⟨HH.out, Below.refl _ _⟩
      refine (HS.out _ K0.out.1).mono ?_
      rintro e w1 ⟨rfl, r1, g1⟩
      have H1 : Hid (RdW b w1 (d :: r2) en nm pv (.slice av n cs) va ∧ LB w1 c 60 (stc x ⟨#[]⟩ t) ∧ Chg b w w1) := ⟨r1, HL.out _ ((Chg.of HLT.out K0.out.2).trans g1), (Chg.of HLT.out K0.out.2).trans g1⟩
      clear r1 g1 HS HL K0
      go_wp2_with fail
      refine (HT.out _ H1.out.1).mono ?_
      rintro e w3 ⟨rfl, r3, g3⟩
      have H3 : Hid (RdW b w3 r2 en nm pv (.slice av n cs) va ∧ LB w3 c 60 (stc x ⟨#[]⟩ t) ∧ Chg b w w3) := ⟨r3, g3.lb hbc H1.out.2.1, H1.out.2.2.trans g3⟩
      have c2 : ∀ o, (w3.alloc o).cell? ⟨c, 1, none⟩ = some (.string ⟨#[]⟩) := fun o => (H3.out.2.1.kept (up0 _ o)).cell 1 _ rfl
      have f2 : ∀ o, (w3.alloc o).frozen? ⟨c, 1, none⟩ = false := fun o => (H3.out.2.1.kept (up0 _ o)).free 1
      have HE : Hid (∀ o, StpPost b c en nm pv (.slice av n cs) va w x d.t t r2 (.returned (.bool true)) ((w3.alloc o).setCell ⟨c, 1, none⟩ (.string d.t))) := fun o => ⟨rfl, stp_set hc H3.out.1 H3.out.2.1 (H3.out.2.2.two c) 1 _ o⟩
      clear r3 g3 H1 HT H3
      go_wp2_with fail
      go_ret
      exact HE.out _
set_option maxRecDepth 100000 in
set_option maxHeartbeats 4000000 in
theorem end_err (b c : Nat) (ws : List Wd) (en : Int) (nm : ByteArray) (pv : Int) (vs va : Value) (x u : ByteArray) (t : Int) (w : World) (h : RdW b w ws en nm pv vs va) (L : LB w c 60 (stc x u t)) (hc : b < c) (n : Nat) (r : List Wd) (hk : endP pv n ws = .error r) (hu : u = ⟨#[]⟩) :
    Calls Tryz.prog 61 #[.pointer (some ⟨b, 0, none⟩), .pointer (some ⟨c, 0, none⟩)] w fun e w' => ErrPost b en w r e w' := by
  subst hu
  have hbc : c ≠ b := Nat.ne_of_gt hc
  have q3 : w.cell? ⟨b, 3, none⟩ = some (.int .i64 pv) := by
    obtain ⟨vw, l, -⟩ := h
    exact l.cell 3 _ rfl
  have HLT : Hid (b < w.heap.size) := h.lt
  have HL : Hid (∀ w', Chg b w w' → LB w' c 60 (stc x ⟨#[]⟩ t)) := fun w' g => g.lb hbc L
  have HH : Hid (RdW b w ws en nm pv vs va) := h
  unfold endP at hk
  by_cases hp : pv = 0
  · rw [if_pos hp] at hk
    have hp2 : (pv == 0) = true := by rw [hp]; rfl
    cases hs : signP ⟨#[33]⟩ ws with
    | some w2 => rw [hs] at hk; cases hk
    | none =>
      rw [hs] at hk
      simp only at hk
      have HS1 : Hid (Calls Tryz.prog 34 #[.pointer (some ⟨b, 0, none⟩), .string ⟨#[33]⟩] w fun e w' => e = .returned (.bool false) ∧ Below w.heap.size w w') := sign_no b _ ws en nm pv _ va w h hs
      clear hs hp
      cases hs : signP ⟨#[126]⟩ ws with
      | none => rw [hs] at hk; cases hk
      | some w2 =>
        rw [hs] at hk
        simp only at hk
        cases ht : takeP 1 w2 with
        | some p => rw [ht] at hk; cases hk
        | none =>
        rw [ht] at hk
        injection hk with e1
        subst e1
        have HS : Hid (∀ w', RdW b w' ws en nm pv vs va → Calls Tryz.prog 34 #[.pointer (some ⟨b, 0, none⟩), .string ⟨#[126]⟩] w' fun e w'' => e = .returned (.bool true) ∧ RdW b w'' w2 en nm pv vs va ∧ Chg b w' w'') := fun w' k => sign_yes b _ ws w2 en nm pv _ va w' k hs
        have HT : Hid (∀ w', RdW b w' w2 en nm pv vs va → Calls Tryz.prog 33 #[.pointer (some ⟨b, 0, none⟩), .int .i64 1] w' fun e w'' => e = .returned (.tuple #[.agg #[.int .i64 0, .int .i64 0, .string ⟨#[]⟩, .int .i64 0], .bool false]) ∧ Below w'.heap.size w' w'') := fun w' k => take_no b 1 w2 en nm pv _ va w' k ht
        clear h L hs ht
        go_enter Tryz.func61, Tryz.ntmps61
        go_wp2_with fail
        refine HS1.out.mono ?_
        rintro e w0 ⟨rfl, b0⟩
        have K0 : Hid (RdW b w0 ws en nm pv vs va ∧ Below w.heap.size w w0) := ⟨HH.out.kept b0, b0⟩
        clear b0 HS1
        go_wp2_with fail
        refine (HS.out _ K0.out.1).mono ?_
        rintro e w1 ⟨rfl, r1, g1⟩
        have H1 : Hid (RdW b w1 w2 en nm pv vs va ∧ LB w1 c 60 (stc x ⟨#[]⟩ t) ∧ Chg b w w1) := ⟨r1, HL.out _ ((Chg.of HLT.out K0.out.2).trans g1), (Chg.of HLT.out K0.out.2).trans g1⟩
        clear r1 g1 HS HL K0
        go_wp2_with fail
        refine (HT.out _ H1.out.1).mono ?_
        rintro e w3 ⟨rfl, b3⟩
        have H3 : Hid (RdW b w3 w2 en nm pv vs va ∧ LB w3 c 60 (stc x ⟨#[]⟩ t) ∧ Chg b w w3) := ⟨H1.out.1.kept b3, H1.out.2.1.kept b3, H1.out.2.2.trans (Chg.of H1.out.1.lt b3)⟩
        have c2 : ∀ o, (w3.alloc o).cell? ⟨c, 1, none⟩ = some (.string ⟨#[]⟩) := fun o => (H3.out.2.1.kept (up0 _ o)).cell 1 _ rfl
        have f2 : ∀ o, (w3.alloc o).frozen? ⟨c, 1, none⟩ = false := fun o => (H3.out.2.1.kept (up0 _ o)).free 1
        have HE : Hid (∀ o, ErrPost b en w w2 (.returned (.bool false)) ((w3.alloc o).setCell ⟨c, 1, none⟩ (.string ⟨#[]⟩))) := fun o => by
          obtain ⟨q1, -, q3⟩ := stp_set hc H3.out.1 H3.out.2.1 (H3.out.2.2.two c) 1 (.string ⟨#[]⟩) o
          exact ⟨rfl, ⟨_, _, _, _, q1⟩, q3.1⟩
        clear b3 H1 HT H3
        go_wp2_with fail
        go_ret
        exact HE.out _
  · rw [if_neg hp] at hk
    have hp2 : (pv == 0) = false := beq_eq_false_iff_ne.2 hp
    simp only at hk
    clear hp
    cases hs : signP ⟨#[126]⟩ ws with
    | none => rw [hs] at hk; cases hk
    | some w2 =>
      rw [hs] at hk
      simp only at hk
      cases ht : takeP 1 w2 with
      | some p => rw [ht] at hk; cases hk
      | none =>
      rw [ht] at hk
      injection hk with e1
      subst e1
      have HS : Hid (∀ w', RdW b w' ws en nm pv vs va → Calls Tryz.prog 34 #[.pointer (some ⟨b, 0, none⟩), .string ⟨#[126]⟩] w' fun e w'' => e = .returned (.bool true) ∧ RdW b w'' w2 en nm pv vs va ∧ Chg b w' w'') := fun w' k => sign_yes b _ ws w2 en nm pv _ va w' k hs
      have HT : Hid (∀ w', RdW b w' w2 en nm pv vs va → Calls Tryz.prog 33 #[.pointer (some ⟨b, 0, none⟩), .int .i64 1] w' fun e w'' => e = .returned (.tuple #[.agg #[.int .i64 0, .int .i64 0, .string ⟨#[]⟩, .int .i64 0], .bool false]) ∧ Below w'.heap.size w' w'') := fun w' k => take_no b 1 w2 en nm pv _ va w' k ht
      clear h L hs ht
      go_enter Tryz.func61, Tryz.ntmps61
      go_wp2_with fail
      have K0 : Hid (RdW b w ws en nm pv vs va ∧ Below w.heap.size w w) := ⟨HH.out, Below.refl _ _⟩
      refine (HS.out _ K0.out.1).mono ?_
      rintro e w1 ⟨rfl, r1, g1⟩
      have H1 : Hid (RdW b w1 w2 en nm pv vs va ∧ LB w1 c 60 (stc x ⟨#[]⟩ t) ∧ Chg b w w1) := ⟨r1, HL.out _ ((Chg.of HLT.out K0.out.2).trans g1), (Chg.of HLT.out K0.out.2).trans g1⟩
      clear r1 g1 HS HL K0
      go_wp2_with fail
      refine (HT.out _ H1.out.1).mono ?_
      rintro e w3 ⟨rfl, b3⟩
      have H3 : Hid (RdW b w3 w2 en nm pv vs va ∧ LB w3 c 60 (stc x ⟨#[]⟩ t) ∧ Chg b w w3) := ⟨H1.out.1.kept b3, H1.out.2.1.kept b3, H1.out.2.2.trans (Chg.of H1.out.1.lt b3)⟩
      have c2 : ∀ o, (w3.alloc o).cell? ⟨c, 1, none⟩ = some (.string ⟨#[]⟩) := fun o => (H3.out.2.1.kept (up0 _ o)).cell 1 _ rfl
      have f2 : ∀ o, (w3.alloc o).frozen? ⟨c, 1, none⟩ = false := fun o => (H3.out.2.1.kept (up0 _ o)).free 1
      have HE : Hid (∀ o, ErrPost b en w w2 (.returned (.bool false)) ((w3.alloc o).setCell ⟨c, 1, none⟩ (.string ⟨#[]⟩))) := fun o => by
        obtain ⟨q1, -, q3⟩ := stp_set hc H3.out.1 H3.out.2.1 (H3.out.2.2.two c) 1 (.string ⟨#[]⟩) o
        exact ⟨rfl, ⟨_, _, _, _, q1⟩, q3.1⟩
      clear b3 H1 HT H3
      go_wp2_with fail
      go_ret
      exact HE.out _
end Go.Proofs.YtcnnpohnfoaceaaGreatDoor

/-
  Package plan: the reader's step.
-/
namespace Go.Proofs.YtcnnpohnfoaceaaGreatDoor
open Go Go.RowKit
open Wb
open Text.Tx (Wd wdc wds wordP wdA)

theorem info_of {P : Program} {t : TypeId} {z : Value} {a b : Nat} (h : (P.info? t).map (fun i => (i.zero, i.size, i.bytes)) = some (some z, a, b)) : ∃ i, P.info? t = some i ∧ i.zero = some z ∧ i.size = a ∧ i.bytes = b := by
  cases hq : P.info? t with
  | none => rw [hq] at h; simp at h
  | some i =>
    rw [hq] at h
    simp at h
    exact ⟨i, rfl, h.1, h.2.1, h.2.2⟩
theorem app_run {P : Program} (w : World) (B : Nat) (e t ty : TypeId) (z : Value) (sz by_ : Nat) (hinfo : (P.info? e).map (fun i => (i.zero, i.size, i.bytes)) = some (some z, sz, by_)) (hz : z.cells.size = sz) (hs : 0 < sz) (hby : by_ ≤ 64) (ht : P.underlying t = some (.slice e))
    (v : Value) (n : Nat) (xs : List Value) (h : w.ownsRow B e sz v n xs) (g : Nat) (D : List Value) (hD : D.length = sz) (hc : w.rangeAt g 0 D) (hone : ∀ u ∈ D, u.oneCell' = true) (hmax : n ≤ 1000000) (hB : B ≤ w.heap.size) :
    ∃ v' w', (Builtin.append_ #[t, t] ty #[v, .slice (some ⟨g, 0, none⟩) 1 1]).run P w = .ok v' w' ∧ w'.ownsRow B e sz v' (n + 1) (xs ++ D) ∧ w.grownBy w' v.ownBlock := by
  obtain ⟨i0, hi, hz0, hz1, hz2⟩ := info_of hinfo
  have hbb : (n + 1) * by_ ≤ 1000001 * 64 := Nat.mul_le_mul (show n + 1 ≤ 1000001 by omega) hby
  obtain ⟨v', w', hr, h2, h3, _⟩ := run_append_own (P := P) w B t ty e i0 z sz by_ ht hi hz0 hz1 hz2 hz hs v n xs h ⟨g, 0, none⟩ 1 1 D (by omega) (fun j x hj => by
    have := hc j x hj
    rw [Addr.add_lit]
    exact this) hone (by unfold maxLen; omega) (by omega) hB
  exact ⟨v', w', hr, h2, h3⟩
theorem step_app {P : Program} {ops : Array Oper} {o : Oper} {a : Act} {w : World} {K : Act → World → Prop} {Q : Exit → Act → World → Prop} {E : Prop} (hgd : o.guard = none) (s x : Operand) (e t : TypeId)
    (ho : o.op = .call { callee := .builtin .append, args := #[s, x], argTypes := #[t, t] })
    (B : Nat) (z : Value) (sz by_ : Nat) (hinfo : (P.info? e).map (fun i => (i.zero, i.size, i.bytes)) = some (some z, sz, by_)) (hz : z.cells.size = sz) (hs : 0 < sz) (hby : by_ ≤ 64) (ht : P.underlying t = some (.slice e))
    (v : Value) (n : Nat) (xs : List Value) (hv : a.eval s = v) (h : w.ownsRow B e sz v n xs) (g : Nat) (D : List Value) (hxe : a.eval x = .slice (some ⟨g, 0, none⟩) 1 1) (hD : D.length = sz) (hc : w.rangeAt g 0 D) (hone : ∀ u ∈ D, u.oneCell' = true) (hmax : n ≤ 1000000) (hB : B ≤ w.heap.size)
    (hK : ∀ v' w', w'.ownsRow B e sz v' (n + 1) (xs ++ D) → w.grownBy w' v.ownBlock → K (a.put o.dst v') w') :
    if Region.wanted o (yielded ops a.tmps) = true then Oper.wp P o a w K Q else E := by
  have hw : Region.wanted o (yielded ops a.tmps) = true := by simp [Region.wanted, hgd]
  rw [if_pos hw]
  obtain ⟨v', w', hr, h1, h2⟩ := app_run (P := P) w B e t o.type z sz by_ hinfo hz hs hby ht v n xs h g D hD hc hone hmax hB
  unfold Oper.wp
  simp [execOp, ho, resolve, invoke, builtin, hv, hxe, hr, Result.andThen]
  exact hK v' w' h1 h2
theorem wpList_app {P : Program} (w : World) {ops : Array Oper} {rest : List Oper} {o : Oper} {a : Act} {Q : Exit → Act → World → Prop} (hgd : o.guard = none) (s x : Operand) (e t : TypeId)
    (ho : o.op = .call { callee := .builtin .append, args := #[s, x], argTypes := #[t, t] })
    (B : Nat) (z : Value) (sz by_ : Nat) (hinfo : (P.info? e).map (fun i => (i.zero, i.size, i.bytes)) = some (some z, sz, by_)) (hz : z.cells.size = sz) (hs : 0 < sz) (hby : by_ ≤ 64) (ht : P.underlying t = some (.slice e))
    (v : Value) (n : Nat) (xs : List Value) (hv : a.eval s = v) (h : w.ownsRow B e sz v n xs) (g : Nat) (D : List Value) (hxe : a.eval x = .slice (some ⟨g, 0, none⟩) 1 1) (hD : D.length = sz) (hc : w.rangeAt g 0 D) (hone : ∀ u ∈ D, u.oneCell' = true) (hmax : n ≤ 1000000) (hB : B ≤ w.heap.size)
    (hK : ∀ v' w', w'.ownsRow B e sz v' (n + 1) (xs ++ D) → w.grownBy w' v.ownBlock → wpList P ops Q rest (a.put o.dst v') w') : wpList P ops Q (o :: rest) a w := by
  obtain ⟨v', w', hr, h1, h2⟩ := app_run (P := P) w B e t o.type z sz by_ hinfo hz hs hby ht v n xs h g D hD hc hone hmax hB
  refine wpList_plain hgd fun _ hK' => ?_
  unfold Oper.wp
  simp [execOp, ho, resolve, invoke, builtin, hv, hxe, hr, Result.andThen]
  exact hK' _ _ (hK v' w' h1 h2)
theorem infoStp3 : (Tryz.prog.info? 60).map (fun i => (i.zero, i.size, i.bytes)) = some (some (.agg #[.string ⟨#[]⟩, .string ⟨#[]⟩, .int .i64 0]), 3, 40) := by kernel_rfl
theorem infoInt3 : (Tryz.prog.info? 3).map (fun i => (i.zero, i.size, i.bytes)) = some (some (.int .i64 0), 1, 8) := by kernel_rfl
theorem ownsRow_same {B : Nat} {w w' : World} {e : TypeId} {sz : Nat} {v : Value} {n : Nat} {xs : List Value} (h : w.ownsRow B e sz v n xs) (hb : ∀ g, v.ownBlock = some g → w'.heap[g]? = w.heap[g]?) : w'.ownsRow B e sz v n xs := by
  refine ⟨h.1, ?_⟩
  rcases h.2 with h1 | ⟨g, cap, cur, rfl, h1, hg, rest⟩
  · exact .inl h1
  · exact .inr ⟨g, cap, cur, rfl, h1, (hb g rfl).trans hg, rest⟩
theorem ownsRow_typed {B : Nat} {w : World} {e : TypeId} {sz : Nat} {v : Value} {n : Nat} {xs : List Value} (h : w.ownsRow B e sz v n xs) (b : Nat) (eb : v.ownBlock = some b) : ∃ cs, w.heap[b]? = some (.cells cs e (0, 0)) := by
  rcases h.2 with ⟨rfl, _⟩ | ⟨g', cap, cur, rfl, _, hg', _⟩
  · simp [Value.ownBlock] at eb
  · simp [Value.ownBlock] at eb
    subst eb
    exact ⟨_, hg'⟩
theorem ownsRow_shape {B : Nat} {w : World} {e : TypeId} {sz : Nat} {v : Value} {n : Nat} {xs : List Value} (h : w.ownsRow B e sz v n xs) : ∃ ao, ∃ c : Nat, v = .slice ao n c := by
  rcases h.2 with ⟨rfl, rfl⟩ | ⟨g', cap, cur, rfl, _⟩
  · exact ⟨_, _, rfl⟩
  · exact ⟨_, _, rfl⟩
/-- the steps, the places, each in a row of its own behind block b -/
def StR (b : Nat) (w : World) (v : Value) (ss : List Stp) : Prop := w.ownsRow (b + 1) 60 3 v ss.length (ss.flatMap stl)
def AtR (b : Nat) (w : World) (v : Value) (l : List Int) : Prop := w.ownsRow (b + 1) 3 1 v l.length (l.map fun z => Value.int .i64 z)
/-- the reader -/
def RdM (b : Nat) (w : World) (ws : List Wd) (en : Int) (nm : ByteArray) (R : RdP) : Prop := ∃ vs va, RdW b w ws en nm R.piv vs va ∧ StR b w vs R.ss ∧ AtR b w va R.ats
/-- the rows stay where only the reader's block, or one that is no row of them, is another -/
theorem rows_chg {b : Nat} {w w' : World} {vs va : Value} {ss : List Stp} {l : List Int} (h : StR b w vs ss ∧ AtR b w va l) (g : ∀ k, b < k → k < w.heap.size → w'.heap[k]? = w.heap[k]?) : StR b w' vs ss ∧ AtR b w' va l := by
  refine ⟨ownsRow_same h.1 fun k e => ?_, ownsRow_same h.2 fun k e => ?_⟩
  · have q := World.ownsRow.lt h.1 k e
    exact g k (by omega) q.2
  · have q := World.ownsRow.lt h.2 k e
    exact g k (by omega) q.2
end Go.Proofs.YtcnnpohnfoaceaaGreatDoor
