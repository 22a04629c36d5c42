import Derived.BigQuiet
import Derived.Test.YtneifdbcjicfgaaDoorQG
/-
  Rows of words written over and lengthened by a word.
-/
namespace Go.Proofs.YtneifdbcjicfgaaDoor
open Go Go.RowKit
open Tx

def Tx.filV (m : Wd) (X : List Wd) (k : Nat) : List Wd := List.replicate k m ++ X.drop k
theorem filV_len {m : Wd} {X : List Wd} {k : Nat} (h : k ≤ X.length) : (filV m X k).length = X.length := by
  unfold filV
  rw [List.length_append, List.length_replicate, List.length_drop]
  omega
theorem filV_set {m : Wd} {X : List Wd} {k : Nat} (h : k < X.length) : (filV m X k).set k m = filV m X (k + 1) := by
  unfold filV
  refine List.ext_getElem? fun p => ?_
  rw [List.getElem?_set]
  by_cases hp : k = p
  · subst hp
    rw [if_pos rfl, if_pos (by rw [List.length_append, List.length_replicate, List.length_drop]; omega), List.getElem?_append_left (by rw [List.length_replicate]; omega), List.getElem?_replicate, if_pos (by omega)]
  · rw [if_neg hp]
    by_cases hlt : p < k
    · rw [List.getElem?_append_left (by rw [List.length_replicate]; omega), List.getElem?_append_left (by rw [List.length_replicate]; omega), List.getElem?_replicate, List.getElem?_replicate, if_pos hlt, if_pos (by omega)]
    · rw [List.getElem?_append_right (by rw [List.length_replicate]; omega), List.getElem?_append_right (by rw [List.length_replicate]; omega), List.length_replicate, List.length_replicate, List.getElem?_drop, List.getElem?_drop]
      congr 1
      omega
theorem filV_zero (m : Wd) (X : List Wd) : filV m X 0 = X := by simp [filV]
theorem filV_end (m : Wd) (X : List Wd) : filV m X X.length = List.replicate X.length m := by simp [filV]
theorem WdR.fillV {m : Wd} {B : Nat} {w : World} {a : Option Addr} {cap : Nat} {X : List Wd} {k : Nat} (h : WdR B w (.slice a X.length cap) (filV m X k)) (hk : k < X.length) :
    ∃ g, a = some ⟨g, 0, none⟩ ∧ w.there g (k * 4) 4 ∧ WdR B (w.setCells g (k * 4) (wdc m)) (.slice a X.length cap) (filV m X (k + 1)) ∧ w.grownBy (w.setCells g (k * 4) (wdc m)) (some g) ∧ B ≤ g := by
  have hl : (filV m X k).length = X.length := filV_len (by omega)
  unfold WdR at h ⊢
  rw [hl] at h
  rcases h.2 with ⟨_, h0⟩ | ⟨g, cap', cur, e, hBg, hg, hnc, hcm, hcs, htk⟩
  · omega
  · simp only [Value.slice.injEq, true_and] at e
    obtain ⟨rfl, rfl⟩ := e
    have s1 := World.ownsRow.stored h (k * 4) (.int .i64 m.k)
    have s2 := World.ownsRow.stored s1.1 (k * 4 + 1) (.int .i64 m.at_)
    have s3 := World.ownsRow.stored s2.1 (k * 4 + 2) (.string m.t)
    have s4 := World.ownsRow.stored s3.1 (k * 4 + 3) (.int .i64 m.n)
    have e9 := flat_setW (filV m X k) k m (by omega)
    have e8 : (((((filV m X k).flatMap wdc).set (k * 4) (.int .i64 m.k)).set (k * 4 + 1) (.int .i64 m.at_)).set (k * 4 + 2) (.string m.t)).set (k * 4 + 3) (.int .i64 m.n) = (filV m X (k + 1)).flatMap wdc := by
      rw [filV_set hk] at e9
      exact e9
    have s4' := s4.1
    rw [e8] at s4'
    refine ⟨g, rfl, fun j hj => ?_, ?_, ?_, hBg⟩
    · have hfz := World.ownsRow.frozenAt h (k * 4 + j)
      refine ⟨?_, hfz⟩
      have hlf : (filV m X k |>.flatMap wdc).length = X.length * 4 := by rw [flat_wdc_len, hl]
      have hc := h.cellAt (k * 4 + j) (by omega)
      rw [hc, List.getElem?_eq_getElem (by omega)]
      rfl
    · rw [filV_len (by omega)]
      exact s4'
    · exact ⟨rfl, rfl, rfl, Nat.le_trans s1.2.size (Nat.le_trans s2.2.size (Nat.le_trans s3.2.size s4.2.size)), fun q hq hn => (((s4.2.block q (Nat.lt_of_lt_of_le hq (Nat.le_trans s1.2.size (Nat.le_trans s2.2.size s3.2.size))) hn).trans (s3.2.block q (Nat.lt_of_lt_of_le hq (Nat.le_trans s1.2.size s2.2.size)) hn)).trans (s2.2.block q (Nat.lt_of_lt_of_le hq s1.2.size) hn)).trans (s1.2.block q hq hn)⟩
def Tx.patV (m : Wd) (n : Nat) : List Value := (List.replicate n m).flatMap wdc
theorem patV_len (m : Wd) (n : Nat) : (patV m n).length = n * 4 := by unfold patV; rw [flat_wdc_len, List.length_replicate]
def Tx.cellV (m : Wd) (p : Nat) : Value := if p % 4 = 0 then .int .i64 m.k else if p % 4 = 1 then .int .i64 m.at_ else if p % 4 = 2 then .string m.t else .int .i64 m.n
theorem patV_get (m : Wd) : ∀ (n p : Nat), p < n * 4 → (patV m n)[p]? = some (cellV m p)
  | 0, p, h => by omega
  | n + 1, p, h => by
    have e : patV m (n + 1) = .int .i64 m.k :: .int .i64 m.at_ :: .string m.t :: .int .i64 m.n :: patV m n := by simp [patV, List.replicate_succ, wdc]
    rw [e]
    match p, h with
    | 0, _ => rfl
    | 1, _ => rfl
    | 2, _ => rfl
    | 3, _ => rfl
    | q + 4, h =>
      simp only [List.getElem?_cons_succ]
      rw [patV_get m n q (by omega)]
      unfold cellV
      rw [show (q + 4) % 4 = q % 4 by omega]
theorem patV_add (m : Wd) (n k : Nat) : patV m n ++ patV m k = patV m (n + k) := by
  unfold patV
  rw [← List.flatMap_append, List.replicate_append_replicate]
theorem patV_one (m : Wd) (n : Nat) : ∀ u ∈ patV m n, u.oneCell' = true := fun u hu => by
  unfold patV at hu
  simp only [List.mem_flatMap, wdc, List.mem_cons, List.not_mem_nil, or_false] at hu
  obtain ⟨s, _, rfl | rfl | rfl | rfl⟩ := hu <;> rfl
/-- a row of n marks -/
def MkV (m : Wd) (B : Nat) (w : World) (v : Value) (n : Nat) : Prop := w.ownsRow B 24 4 v n (patV m n)
theorem mkV_of {m : Wd} {B : Nat} {w : World} {v : Value} {n : Nat} (h : WdR B w v (List.replicate n m)) : MkV m B w v n := by
  unfold WdR at h
  rw [List.length_replicate] at h
  exact h
theorem MkV.wd {m : Wd} {B : Nat} {w : World} {v : Value} {n : Nat} (h : MkV m B w v n) : WdR B w v (List.replicate n m) := by
  unfold WdR
  rw [List.length_replicate]
  exact h
theorem MkV.block {m : Wd} {B : Nat} {w w' : World} {v : Value} {n : Nat} (h : MkV m B w v n) (hg : ∀ g, v.ownBlock = some g → w'.heap[g]? = w.heap[g]?) : MkV m B w' v n := mkV_of (h.wd.block hg)
theorem MkV.kept {m : Wd} {B : Nat} {w w' : World} {v : Value} {n : Nat} (h : MkV m B w v n) (hb : Below w.heap.size w w') : MkV m B w' v n := mkV_of (h.wd.kept hb)
theorem append_marksV {P : Program} (w : World) (B : Nat) (t ty : TypeId) (mk : Wd) (hinfo : (P.info? 24).map (fun i => (i.zero, i.size, i.bytes)) = some (some (.agg #[.int .i64 0, .int .i64 0, .string ⟨#[]⟩, .int .i64 0]), 4, 40)) (ht : P.underlying t = some (.slice 24))
    (v : Value) (k m : Nat) (h : MkV mk B w v k) (gx cx : Nat) (hx : ∀ (j : Nat) (u : Value), (patV mk m)[j]? = some u → w.cell? ⟨gx, j, none⟩ = some u) (hmax : (k + m) * 40 ≤ 140737488355328) (hB : B ≤ w.heap.size) :
    ∃ v' w', (Builtin.append_ #[t, t] ty #[v, .slice (some ⟨gx, 0, none⟩) m cx]).run P w = .ok v' w' ∧ MkV mk B w' v' (k + m) ∧ w.grownBy w' v.ownBlock ∧ (v'.ownBlock = v.ownBlock ∨ v'.ownBlock = some w.heap.size) ∧
      ∀ (u : Value) (k' : Nat), MkV mk B w u k' → MkV mk B w' u k' := by
  obtain ⟨i0, hi, hz0, hz1, hz2⟩ := info_parts3 hinfo
  have hnews : ∀ j u, (patV mk m)[j]? = some u → w.cell? ((⟨gx, 0, none⟩ : Addr).add j) = some u := fun j u hj => by
    rw [Addr.add_lit, Nat.zero_add]
    exact hx j u hj
  obtain ⟨v', w', hr, h2, h3, _, h5⟩ := run_append_own_at (P := P) w B t ty 24 i0 _ 4 40 ht hi hz0 hz1 hz2 rfl (by decide) v k (patV mk k) h ⟨gx, 0, none⟩ m cx (patV mk m) (patV_len mk m) hnews (patV_one mk m) (by unfold maxLen; omega) hmax hB
  rw [patV_add] at h2
  refine ⟨v', w', hr, h2, h3, h5, fun u k' hu => ?_⟩
  by_cases hub : u.ownBlock = v.ownBlock
  · rcases hu.2 with ⟨rfl, h0⟩ | ⟨g, cap, cur, rfl, hbg, hg, hnc, hcm, hcs, htk⟩
    · exact ⟨hu.1, .inl ⟨rfl, h0⟩⟩
    · rcases h.2 with ⟨rfl, _⟩ | ⟨g', cap', cur', rfl, hbg', hg', hnc', hcm', hcs', htk'⟩
      · cases hub
      · obtain rfl : g = g' := by simpa [Value.ownBlock] using hub
        obtain rfl : cur = cur' := by
          have := hg.symm.trans hg'
          simpa using this
        have hcc : cap = cap' := by omega
        subst hcc
        by_cases hroom : k + m ≤ cap
        · have hfit : k * i0.size + (patV mk m).length ≤ cur.size := by rw [hz1, patV_len, hcs]; omega
          have hr2 := run_append_room (P := P) w t ty 24 i0 ht hi g k cap cur hg ⟨gx, 0, none⟩ m cx (patV mk m) (by rw [hz1, patV_len]) hnews (patV_one mk m) hroom hfit
          rw [hr2] at hr
          injection hr with e1 e2
          subst e1 e2
          refine ⟨hu.1, .inr ⟨g, cap, _, rfl, hbg, setRow_heap w g cur _ 24 _ hg, hnc, hcm, ?_, ?_⟩⟩
          · simp only [List.size_toArray, List.length_append, List.length_take, List.length_drop, Array.length_toList, hz1, patV_len]
            omega
          · rw [← htk, hz1, patV_len]
            have hcp : ∀ p, p < k' * 4 → cur.toList[p]? = some (cellV mk p) := fun p hp => by
              have h9 : (cur.toList.take (k' * 4))[p]? = (patV mk k')[p]? := by rw [htk]
              rw [List.getElem?_take_of_lt hp] at h9
              rw [h9, patV_get mk k' p hp]
            refine List.ext_getElem? fun p => ?_
            by_cases hp : p < k' * 4
            · rw [List.getElem?_take_of_lt hp, List.getElem?_take_of_lt hp]
              by_cases h1 : p < k * 4
              · rw [List.append_assoc, List.getElem?_append_left (by rw [List.length_take, Array.length_toList]; omega), List.getElem?_take_of_lt h1]
              · have htl : (cur.toList.take (k * 4)).length = k * 4 := by rw [List.length_take, Array.length_toList]; omega
                by_cases h2 : p < (k + m) * 4
                · rw [List.append_assoc, List.getElem?_append_right (by omega), htl, List.getElem?_append_left (by rw [patV_len]; omega), patV_get mk m (p - k * 4) (by omega), hcp p hp]
                  unfold cellV
                  rw [show (p - k * 4) % 4 = p % 4 by omega]
                · rw [List.append_assoc, List.getElem?_append_right (by omega), htl, List.getElem?_append_right (by rw [patV_len]; omega), patV_len, List.getElem?_drop]
                  congr 1
                  omega
            · rw [List.getElem?_eq_none (by rw [List.length_take]; omega), List.getElem?_eq_none (by rw [List.length_take]; omega)]
        · have holds : ∀ j u, (patV mk k)[j]? = some u → w.cell? ((⟨g, 0, none⟩ : Addr).add j) = some u := World.ownsRow.cells h (g := g) rfl
          have hr2 := run_append_grow (P := P) w t ty 24 i0 _ ht hi hz0 ⟨g, 0, none⟩ k cap (patV mk k) (by rw [hz1, patV_len]) holds ⟨gx, 0, none⟩ m cx (patV mk m) (by rw [hz1, patV_len]) hnews (by omega) (by omega) (growslice_fits (by omega) (by rw [hz2]; omega))
          rw [hr2] at hr
          injection hr with e1 e2
          subst e1 e2
          refine ⟨hu.1, .inr ⟨g, cap, cur, rfl, hbg, ?_, hnc, hcm, hcs, htk⟩⟩
          rw [← hg]
          exact (up0 w.drew _).block g (Array.getElem?_eq_some_iff.1 hg).1
  · exact hu.block fun g hg => h3.block g (World.ownsRow.lt hu g hg).2 fun e => hub (hg.trans e)
end Go.Proofs.YtneifdbcjicfgaaDoor

/-
  TextWords: the book of lists that were written full.
-/
namespace Go.Proofs.YtneifdbcjicfgaaDoor
open Go Go.RowKit
open Tx

/-- the n-th mark -/
def Tx.mrk (n : Nat) : Wd := ⟨-(n : Int), (n : Int), ⟨#[109, 97, 114, 107]⟩, -(n : Int)⟩
theorem row_block {B : Nat} {w w' : World} {t : TypeId} {s n : Nat} {v : Value} {xs : List Value} (h : w.ownsRow B t s v n xs) (hg : ∀ g, v.ownBlock = some g → w'.heap[g]? = w.heap[g]?) : w'.ownsRow B t s v n xs := by
  refine ⟨h.1, ?_⟩
  rcases h.2 with h1 | ⟨g, cap, cur, e, hb, hh, rest⟩
  · exact .inl h1
  · exact .inr ⟨g, cap, cur, e, hb, (hg g (by rw [e]; rfl)).trans hh, rest⟩
theorem row_type {B : Nat} {w : World} {t : TypeId} {s n : Nat} {v : Value} {xs : List Value} (h : w.ownsRow B t s v n xs) (g : Nat) (hg : v.ownBlock = some g) : ∃ cur, w.heap[g]? = some (.cells cur t) := by
  rcases h.2 with ⟨rfl, _⟩ | ⟨g1, cap, cur, rfl, _, hh, _⟩
  · cases hg
  · obtain rfl : g1 = g := by simpa [Value.ownBlock] using hg
    exact ⟨cur, hh⟩
/-- two rows of unlike kinds have unlike blocks -/
theorem kinds_apart {B B' : Nat} {w : World} {t t' : TypeId} {s s' n n' : Nat} {v v' : Value} {xs xs' : List Value} (h : w.ownsRow B t s v n xs) (h' : w.ownsRow B' t' s' v' n' xs') (ht : t ≠ t') (g : Nat) (hg : v.ownBlock = some g) : v'.ownBlock ≠ some g := fun hg' => by
  obtain ⟨c, hc⟩ := row_type h g hg
  obtain ⟨c', hc'⟩ := row_type h' g hg'
  rw [hc] at hc'
  simp at hc'
  exact ht hc'.2
/-- a book: its cells, its two rows, its lists -/
structure Bk (B : Nat) (w : World) (gb : Nat) (vl vm : Value) (L : List (Value × Nat × Nat)) : Prop where
  low : B ≤ gb
  cells : w.heap[gb]? = some (.cells #[vl, vm] 50)
  r1 : w.ownsRow B 25 1 vl L.length (L.map (·.1))
  r2 : w.ownsRow B 3 1 vm L.length (L.map fun x => .int .i64 (x.2.2 : Int))
  ls : ∀ x ∈ L, MkV (mrk x.2.2) B w x.1 x.2.1
theorem Bk.keep {B : Nat} {w w' : World} {gb : Nat} {vl vm : Value} {L : List (Value × Nat × Nat)} (h : Bk B w gb vl vm L) (h0 : w'.heap[gb]? = w.heap[gb]?) (h1 : ∀ g, vl.ownBlock = some g → w'.heap[g]? = w.heap[g]?) (h2 : ∀ g, vm.ownBlock = some g → w'.heap[g]? = w.heap[g]?)
    (h3 : ∀ x ∈ L, ∀ g, x.1.ownBlock = some g → w'.heap[g]? = w.heap[g]?) : Bk B w' gb vl vm L :=
  ⟨h.low, h0.trans h.cells, row_block h.r1 h1, row_block h.r2 h2, fun x hx => (h.ls x hx).block (h3 x hx)⟩
theorem Bk.kept {B : Nat} {w w' : World} {gb : Nat} {vl vm : Value} {L : List (Value × Nat × Nat)} (h : Bk B w gb vl vm L) (hb : Below w.heap.size w w') : Bk B w' gb vl vm L :=
  h.keep (hb.block gb (Array.getElem?_eq_some_iff.1 h.cells).1) (fun g hg => hb.block g (World.ownsRow.lt h.r1 g hg).2) (fun g hg => hb.block g (World.ownsRow.lt h.r2 g hg).2) (fun x hx g hg => hb.block g (World.ownsRow.lt (h.ls x hx) g hg).2)
/-- a row of words that is none of the book's changes nothing in it -/
theorem Bk.other {B B' : Nat} {w w' : World} {gb : Nat} {vl vm : Value} {L : List (Value × Nat × Nat)} (h : Bk B w gb vl vm L) {v : Value} {n : Nat} {xs : List Value} (hv : w.ownsRow B' 24 4 v n xs) (hne : ∀ x ∈ L, ∀ g, x.1.ownBlock = some g → v.ownBlock ≠ some g) (k : w.grownBy w' v.ownBlock) : Bk B w' gb vl vm L := by
  have hlt : gb < w.heap.size := (Array.getElem?_eq_some_iff.1 h.cells).1
  refine h.keep (k.block gb hlt fun e => ?_) (fun g hg => k.block g (World.ownsRow.lt h.r1 g hg).2 fun e => ?_) (fun g hg => k.block g (World.ownsRow.lt h.r2 g hg).2 fun e => ?_) (fun x hx g hg => k.block g (World.ownsRow.lt (h.ls x hx) g hg).2 fun e => hne x hx g hg e.symm)
  · obtain ⟨c, hc⟩ := row_type hv gb e.symm
    rw [h.cells] at hc
    simp at hc
  · exact kinds_apart h.r1 hv (by decide) g hg e.symm
  · exact kinds_apart h.r2 hv (by decide) g hg e.symm
/-- in a book with a longer row of lists -/
theorem Bk.lists {B : Nat} {w w' : World} {gb : Nat} {vl vm : Value} {L : List (Value × Nat × Nat)} (h : Bk B w gb vl vm L) (k : w.grownBy w' vl.ownBlock) : w'.heap[gb]? = w.heap[gb]? ∧ w'.ownsRow B 3 1 vm L.length (L.map fun x => .int .i64 (x.2.2 : Int)) ∧ ∀ (d : Wd) (u : Value) (n : Nat), MkV d B w u n → MkV d B w' u n := by
  have hlt : gb < w.heap.size := (Array.getElem?_eq_some_iff.1 h.cells).1
  refine ⟨k.block gb hlt fun e => ?_, row_block h.r2 (fun g hg => k.block g (World.ownsRow.lt h.r2 g hg).2 fun e => kinds_apart h.r2 h.r1 (by decide) g hg e.symm), fun d u n hu => hu.block fun g hg => k.block g (World.ownsRow.lt hu g hg).2 fun e => kinds_apart hu h.r1 (by decide) g hg e.symm⟩
  obtain ⟨c, hc⟩ := row_type h.r1 gb e.symm
  rw [h.cells] at hc
  simp at hc
end Go.Proofs.YtneifdbcjicfgaaDoor

/-
  TextWords: whole.
-/
namespace Go.Proofs.YtneifdbcjicfgaaDoor
open Go Go.RowKit
open Tx

theorem heap_cell {w : World} {g : Nat} {cs : Array Value} {t : TypeId} (h : w.heap[g]? = some (.cells cs t)) (j : Nat) (u : Value) (hj : cs[j]? = some u) : w.cell? ⟨g, j, none⟩ = some u := by
  unfold World.cell?
  rw [h]
  exact hj
theorem heap_frozen {w : World} {g : Nat} {cs : Array Value} {t : TypeId} (h : w.heap[g]? = some (.cells cs t)) (j : Nat) : w.frozen? ⟨g, j, none⟩ = false := by
  unfold World.frozen?
  rw [h]
  simp
theorem neg_wrap (n : Nat) (h : n ≤ 1000000) : IntKind.wrap .i64 (-(n : Int)) = -(n : Int) := by
  unfold IntKind.wrap
  simp [IntKind.bits, IntKind.signed]
  omega
theorem row_cells {B : Nat} {w : World} {t : TypeId} {n : Nat} {v : Value} {xs : List Value} (h : w.ownsRow B t 1 v n xs) : ∃ a, ∃ c : Nat, v = .slice a n c ∧ n ≤ c ∧ c ≤ maxLen ∧ ∀ (i : Nat) (u : Value), xs[i]? = some u → ∃ g, a = some ⟨g, 0, none⟩ ∧ w.cell? ⟨g, i, none⟩ = some u := by
  have hl := h.1
  rcases h.2 with ⟨rfl, rfl⟩ | ⟨g, cap, cur, rfl, _, hh, h1, h2, _, _⟩
  · exact ⟨none, 0, rfl, Nat.le_refl _, Nat.zero_le _, fun i u hu => by
      have := (List.getElem?_eq_some_iff.1 hu).1
      omega⟩
  · refine ⟨_, _, rfl, h1, h2, fun i u hu => ⟨g, rfl, ?_⟩⟩
    have h9 := World.ownsRow.cellAt h i (by have := (List.getElem?_eq_some_iff.1 hu).1; omega)
    rw [h9, hu]
theorem Bk.shape {B : Nat} {w : World} {gb : Nat} {vl vm : Value} {L : List (Value × Nat × Nat)} (h : Bk B w gb vl vm L) : ∃ al am, ∃ cl cm : Nat, vl = .slice al L.length cl ∧ vm = .slice am L.length cm ∧ L.length ≤ cl ∧ cl ≤ maxLen ∧ L.length ≤ cm ∧ cm ≤ maxLen ∧ w.cell? ⟨gb, 0, none⟩ = some (.slice al L.length cl) ∧ w.cell? ⟨gb, 1, none⟩ = some (.slice am L.length cm) ∧
    ∀ (i : Nat) (x : Value × Nat × Nat), L[i]? = some x → ∃ gl gm, al = some ⟨gl, 0, none⟩ ∧ am = some ⟨gm, 0, none⟩ ∧ w.cell? ⟨gl, i, none⟩ = some x.1 ∧ w.cell? ⟨gm, i, none⟩ = some (.int .i64 (x.2.2 : Int)) := by
  obtain ⟨al, cl, rfl, h1, h2, h3⟩ := row_cells h.r1
  obtain ⟨am, cm, rfl, h4, h5, h6⟩ := row_cells h.r2
  refine ⟨al, am, cl, cm, rfl, rfl, h1, h2, h4, h5, heap_cell h.cells 0 _ rfl, heap_cell h.cells 1 _ rfl, fun i x hx => ?_⟩
  obtain ⟨gl, e1, c1⟩ := h3 i x.1 (by rw [List.getElem?_map, hx]; rfl)
  obtain ⟨gm, e2, c2⟩ := h6 i (.int .i64 (x.2.2 : Int)) (by rw [List.getElem?_map, hx]; rfl)
  exact ⟨gl, gm, e1, e2, c1, c2⟩
set_option maxRecDepth 100000 in
set_option maxHeartbeats 4000000 in
theorem whole_any (B gb : Nat) (vl vm : Value) (L : List (Value × Nat × Nat)) (w : World) (h : Bk B w gb vl vm L) (hL : ∀ x ∈ L, x.2.2 ≤ 1000000) :
    Calls Tryd.prog 18 #[.pointer (some ⟨gb, 0, none⟩)] w fun e w' => e = .returned (.bool true) ∧ w' = w := by
  have HLS : Hid (∀ x ∈ L, MkV (mrk x.2.2) B w x.1 x.2.1) := h.ls
  have HLB : Hid (∀ x ∈ L, x.2.2 ≤ 1000000) := hL
  obtain ⟨al, am, cl, cm, -, -, hc1, hc2, hc3, hc4, hx0, hx1, hcell⟩ := h.shape
  have HC : Hid (∀ (i : Nat) (x : Value × Nat × Nat), L[i]? = some x → ∃ gl gm, al = some ⟨gl, 0, none⟩ ∧ am = some ⟨gm, 0, none⟩ ∧ w.cell? ⟨gl, i, none⟩ = some x.1 ∧ w.cell? ⟨gm, i, none⟩ = some (.int .i64 (x.2.2 : Int))) := hcell
  unfold maxLen at hc2 hc4
  clear h hL hcell
  go_enter Tryd.func18, Tryd.ntmps18
  go_wp2
  go_loopw [3] (fun i wr => ∃ k : Nat, k ≤ L.length ∧ i = .int .i64 (k : Int) ∧ wr = w) (fun i _ => L.length - (intOf i).toNat)
  case atStart => exact ⟨0, Nat.zero_le _, rfl, rfl⟩
  case round =>
    obtain ⟨k, hk, rfl, rfl⟩ := hrel
    by_cases hlt : k < L.length
    · obtain ⟨x, hx⟩ : ∃ x, L[k]? = some x := ⟨L[k], List.getElem?_eq_getElem hlt⟩
      obtain ⟨gl, gm, rfl, rfl, y0, y1⟩ := HC.out k x hx
      have hmem : x ∈ L := List.mem_of_getElem? hx
      have HW : Hid (WdsAt wr x.1 (List.replicate x.2.1 (mrk x.2.2))) := (HLS.out x hmem).wd.at
      have hb := HLB.out x hmem
      obtain ⟨xv, xn, xm⟩ := x
      simp only at HW hb y0 y1
      obtain ⟨a1, c1, e1, hd1, hd2, -⟩ := HW.out
      rw [List.length_replicate] at e1 hd1
      subst e1
      unfold maxLen at hd2
      clear hx hmem HC HLS HLB
      have hneg : IntKind.wrap .i64 (-(xm : Int)) = -(xm : Int) := neg_wrap xm hb
      go_wp2
      go_loopw [5] (fun i wx => ∃ q : Nat, q ≤ xn ∧ i = .int .i64 (q : Int) ∧ wx = wr) (fun i _ => xn - (intOf i).toNat)
      case atStart => exact ⟨0, Nat.zero_le _, rfl, rfl⟩
      case round =>
        obtain ⟨q, hq, rfl, rfl⟩ := hrel
        by_cases hlq : q < xn
        · obtain ⟨ao1, cap1, e1, -, -, hr1⟩ := HW.out
          rw [List.length_replicate] at e1
          simp only [Value.slice.injEq] at e1
          obtain ⟨rfl, -, rfl⟩ := e1
          obtain ⟨b1, off1, rfl, x0, x1, x2, x3⟩ := hr1 q (mrk xm) (by rw [List.getElem?_replicate, if_pos hlq])
          unfold mrk at x0 x1 x2 x3
          simp only at x0 x1 x2 x3
          clear hr1 HW
          go_wp2
          go_roundw
          case rel => exact ⟨q + 1, by omega, by go_num, by first | rfl | trivial⟩
          case measure => simp [intOf]; omega
        · obtain rfl : q = xn := by omega
          go_wp2
          go_roundw
          case rel => exact ⟨k + 1, by omega, by go_num, by first | rfl | trivial⟩
          case measure => simp [intOf]; omega
    · obtain rfl : k = L.length := by omega
      go_wp2
      go_ret
      exact ⟨rfl, rfl⟩
end Go.Proofs.YtneifdbcjicfgaaDoor

/-
  TextWords: take.
-/
namespace Go.Proofs.YtneifdbcjicfgaaDoor
open Go Go.RowKit
open Tx

theorem wpList_append_marksV {P : Program} (w : World) {ops : Array Oper} {rest : List Oper} {o : Oper} {a : Act} {Q : Exit → Act → World → Prop} (hgd : o.guard = none) (s x : Operand) (t : TypeId)
    (ho : o.op = .call { callee := .builtin .append, args := #[s, x], argTypes := #[t, t] })
    (B : Nat) (mk : Wd) (hinfo : (P.info? 24).map (fun i => (i.zero, i.size, i.bytes)) = some (some (.agg #[.int .i64 0, .int .i64 0, .string ⟨#[]⟩, .int .i64 0]), 4, 40)) (ht : P.underlying t = some (.slice 24))
    (v : Value) (k m : Nat) (hv : a.eval s = v) (h : MkV mk B w v k) (gx cx : Nat) (hxe : a.eval x = .slice (some ⟨gx, 0, none⟩) m cx) (hx : ∀ (j : Nat) (u : Value), (patV mk m)[j]? = some u → w.cell? ⟨gx, j, none⟩ = some u) (hmax : (k + m) * 40 ≤ 140737488355328) (hB : B ≤ w.heap.size)
    (hK : ∀ v' w', MkV mk B w' v' (k + m) → w.grownBy w' v.ownBlock → (∀ (u : Value) (k' : Nat), MkV mk B w u k' → MkV mk B w' u k') → wpList P ops Q rest (a.put o.dst v') w') : wpList P ops Q (o :: rest) a w := by
  obtain ⟨v', w', hr, h1, h2, -, h4⟩ := append_marksV (P := P) w B t o.type mk hinfo ht v k m h gx cx hx hmax hB
  refine wpList_plain hgd fun _ hK' => ?_
  unfold Oper.wp
  simp [execOp, ho, resolve, invoke, builtin, hv, hxe, hr, Result.andThen]
  exact hK' _ _ (hK v' w' h1 h2 h4)
/-- four more values behind a row -/
theorem wpList_append_four {P : Program} (w : World) {ops : Array Oper} {rest : List Oper} {o : Oper} {a : Act} {Q : Exit → Act → World → Prop} (hgd : o.guard = none) (s x : Operand) (e t : TypeId) (z : Value) (by_ : Nat)
    (ho : o.op = .call { callee := .builtin .append, args := #[s, x], argTypes := #[t, t] })
    (B : Nat) (hinfo : (P.info? e).map (fun i => (i.zero, i.size, i.bytes)) = some (some z, 1, by_)) (hz : z.cells.size = 1) (hby : by_ ≤ 24) (ht : P.underlying t = some (.slice e))
    (v : Value) (n : Nat) (xs : List Value) (hv : a.eval s = v) (h : w.ownsRow B e 1 v n xs) (g : Nat) (u0 u1 u2 u3 : Value) (hx : a.eval x = .slice (some ⟨g, 0, none⟩) 4 4)
    (hc : ∀ j u, [u0, u1, u2, u3][j]? = some u → w.cell? ⟨g, j, none⟩ = some u) (hone : ∀ u ∈ [u0, u1, u2, u3], u.oneCell' = true)
    (hmax : n ≤ 2000000) (hB : B ≤ w.heap.size)
    (hK : ∀ v' w', w'.ownsRow B e 1 v' (n + 4) (xs ++ [u0, u1, u2, u3]) → w.grownBy w' v.ownBlock → wpList P ops Q rest (a.put o.dst v') w') : wpList P ops Q (o :: rest) a w := by
  obtain ⟨i0, hi, hz0, hz1, hz2⟩ := info_parts3 hinfo
  have hbb : (n + 4) * by_ ≤ 48000096 := by
    have h1 : (n + 4) * by_ ≤ 2000004 * 24 := Nat.mul_le_mul (by omega) hby
    omega
  refine wpList_append_own_at w hgd s x t ho B e i0 z 1 by_ ht hi hz0 hz1 hz2 hz (by decide) v n xs hv h ⟨g, 0, none⟩ 4 4 [u0, u1, u2, u3] hx rfl ?_ hone (by unfold maxLen; omega) (by omega) hB ?_
  · intro j u hj
    have := hc j u hj
    rw [Addr.add_lit, Nat.zero_add]
    exact this
  · intro v' w' h2 h3 _ _
    exact hK v' w' h2 h3
/-- where take stands: its mark, the book, old memory -/
structure TkS (B : Nat) (w0 : World) (gM gb : Nat) (d : Wd) (vl vm : Value) (L : List (Value × Nat × Nat)) (w : World) : Prop where
  low : B ≤ w0.heap.size
  mark : w.heap[gM]? = some (.cells (wdc d).toArray 24)
  bk : Bk B w gb vl vm L
  bel : Below B w0 w
theorem TkS.lt {B : Nat} {w0 : World} {gM gb : Nat} {d : Wd} {vl vm : Value} {L : List (Value × Nat × Nat)} {w : World} (h : TkS B w0 gM gb d vl vm L w) : gM < w.heap.size := (Array.getElem?_eq_some_iff.1 h.mark).1
theorem TkS.alloc {B : Nat} {w0 : World} {gM gb : Nat} {d : Wd} {vl vm : Value} {L : List (Value × Nat × Nat)} {w : World} (h : TkS B w0 gM gb d vl vm L w) (o : Obj) : TkS B w0 gM gb d vl vm L (w.alloc o) :=
  ⟨h.low, ((up0 w o).block gM h.lt).trans h.mark, h.bk.kept (up0 w o), h.bel.alloc (Nat.le_trans h.low h.bel.size) o⟩
theorem TkS.grown {B : Nat} {w0 : World} {gM gb : Nat} {d : Wd} {vl vm : Value} {L : List (Value × Nat × Nat)} {w w' : World} (h : TkS B w0 gM gb d vl vm L w) {v : Value} {n : Nat} {xs : List Value} (hv : w.ownsRow B 24 4 v n xs) (hne : ∀ x ∈ L, ∀ g, x.1.ownBlock = some g → v.ownBlock ≠ some g) (hM : v.ownBlock ≠ some gM) (k : w.grownBy w' v.ownBlock) : TkS B w0 gM gb d vl vm L w' :=
  ⟨h.low, (k.block gM h.lt fun e => hM e.symm).trans h.mark, h.bk.other hv hne k, h.bel.grown k (Nat.le_trans h.low h.bel.size) fun g e => (World.ownsRow.lt hv g e).1⟩
theorem TkS.cells {B : Nat} {w0 : World} {gM gb : Nat} {d : Wd} {vl vm : Value} {L : List (Value × Nat × Nat)} {w : World} (h : TkS B w0 gM gb d vl vm L w) : w.cell? ⟨gM, 0, none⟩ = some (.int .i64 d.k) ∧ w.cell? ⟨gM, 1, none⟩ = some (.int .i64 d.at_) ∧ w.cell? ⟨gM, 2, none⟩ = some (.string d.t) ∧ w.cell? ⟨gM, 3, none⟩ = some (.int .i64 d.n) :=
  ⟨heap_cell h.mark 0 _ rfl, heap_cell h.mark 1 _ rfl, heap_cell h.mark 2 _ rfl, heap_cell h.mark 3 _ rfl⟩
theorem MkV.up {d : Wd} {B : Nat} {w : World} {v : Value} {n : Nat} (h : MkV d B w v n) (o : Obj) : MkV d B (w.alloc o) v n := h.kept (up0 w o)
/-- the values of a list of m marks, just laid -/
theorem pat_new (d : Wd) (w : World) (t : TypeId) (m : Nat) (cs : Array Value) (he : cs.toList = patV d m) (j : Nat) (u : Value) (hj : (patV d m)[j]? = some u) : (w.alloc (.cells cs t)).cell? ⟨w.heap.size, j, none⟩ = some u := by
  rw [World.cell?_alloc_new]
  rw [← he] at hj
  simpa using hj
theorem set_other (w : World) (p : Addr) (u : Value) (g : Nat) (h : g ≠ p.block) : (w.setCell p u).heap[g]? = w.heap[g]? := by
  simp only [World.setCell, Array.getElem?_modify]
  rw [if_neg (Ne.symm h)]
theorem set_book0 {w : World} {gb : Nat} {vl vm : Value} {t : TypeId} (h : w.heap[gb]? = some (.cells #[vl, vm] t)) (u : Value) : (w.setCell ⟨gb, 0, none⟩ u).heap[gb]? = some (.cells #[u, vm] t) := by
  simp only [World.setCell, Array.getElem?_modify]
  rw [if_pos trivial, h]
  rfl
theorem set_book1 {w : World} {gb : Nat} {vl vm : Value} {t : TypeId} (h : w.heap[gb]? = some (.cells #[vl, vm] t)) (u : Value) : (w.setCell ⟨gb, 1, none⟩ u).heap[gb]? = some (.cells #[vl, u] t) := by
  simp only [World.setCell, Array.getElem?_modify]
  rw [if_pos trivial, h]
  rfl
/-- a book while it is lengthened -/
structure Hb (B : Nat) (w : World) (gb : Nat) (vl vm : Value) (n1 n2 : Nat) (xs ys : List Value) (L : List (Value × Nat × Nat)) : Prop where
  low : B ≤ gb
  cells : w.heap[gb]? = some (.cells #[vl, vm] 50)
  r1 : w.ownsRow B 25 1 vl n1 xs
  r2 : w.ownsRow B 3 1 vm n2 ys
  ls : ∀ x ∈ L, MkV (mrk x.2.2) B w x.1 x.2.1
section
variable {B : Nat} {w w' : World} {gb : Nat} {vl vm vl' vm' : Value} {n1 n2 n' : Nat} {xs ys xs' : List Value} {L : List (Value × Nat × Nat)}
theorem Hb.lt (h : Hb B w gb vl vm n1 n2 xs ys L) : gb < w.heap.size := (Array.getElem?_eq_some_iff.1 h.cells).1
theorem Hb.kept (h : Hb B w gb vl vm n1 n2 xs ys L) (hb : Below w.heap.size w w') : Hb B w' gb vl vm n1 n2 xs ys L :=
  ⟨h.low, (hb.block gb h.lt).trans h.cells, row_block h.r1 fun g hg => hb.block g (World.ownsRow.lt h.r1 g hg).2, row_block h.r2 fun g hg => hb.block g (World.ownsRow.lt h.r2 g hg).2, fun x hx => (h.ls x hx).kept hb⟩
/-- no row is the book's own block -/
theorem no_book {B' : Nat} {t : TypeId} {s n : Nat} {v : Value} {zs : List Value} (hc : ∃ a b : Value, w.heap[gb]? = some (.cells #[a, b] 50)) (h : w.ownsRow B' t s v n zs) (ht : t ≠ 50) (e : v.ownBlock = some gb) : False := by
  obtain ⟨a, b, hc⟩ := hc
  obtain ⟨c, hc'⟩ := row_type h gb e
  rw [hc] at hc'
  simp at hc'
  exact ht hc'.2.symm
theorem Hb.put1 (h : Hb B w gb vl vm n1 n2 xs ys L) (k : w.grownBy w' vl.ownBlock) (h' : w'.ownsRow B 25 1 vl' n' xs') :
    w'.cell? ⟨gb, 0, none⟩ = some vl ∧ w'.frozen? ⟨gb, 0, none⟩ = false ∧ Hb B (w'.setCell ⟨gb, 0, none⟩ vl') gb vl' vm n' n2 xs' ys L := by
  have h0 : w'.heap[gb]? = some (.cells #[vl, vm] 50) := (k.block gb h.lt fun e => no_book ⟨_, _, h.cells⟩ h.r1 (by decide) e.symm).trans h.cells
  refine ⟨heap_cell h0 0 _ rfl, heap_frozen h0 0, h.low, set_book0 h0 _, row_block h' fun g hg => set_other _ _ _ _ fun e => no_book ⟨_, _, h0⟩ h' (by decide) (hg.trans (congrArg some e)), ?_, fun x hx => ?_⟩
  · refine row_block h.r2 fun g hg => ?_
    rw [set_other _ _ _ _ fun e => no_book ⟨_, _, h.cells⟩ h.r2 (by decide) (hg.trans (congrArg some e))]
    exact k.block g (World.ownsRow.lt h.r2 g hg).2 fun e => kinds_apart h.r2 h.r1 (by decide) g hg e.symm
  · refine (h.ls x hx).block fun g hg => ?_
    rw [set_other _ _ _ _ fun e => no_book ⟨_, _, h.cells⟩ (h.ls x hx) (by decide) (hg.trans (congrArg some e))]
    exact k.block g (World.ownsRow.lt (h.ls x hx) g hg).2 fun e => kinds_apart (h.ls x hx) h.r1 (by decide) g hg e.symm
theorem Hb.put2 (h : Hb B w gb vl vm n1 n2 xs ys L) (k : w.grownBy w' vm.ownBlock) (h' : w'.ownsRow B 3 1 vm' n' xs') :
    w'.cell? ⟨gb, 1, none⟩ = some vm ∧ w'.frozen? ⟨gb, 1, none⟩ = false ∧ Hb B (w'.setCell ⟨gb, 1, none⟩ vm') gb vl vm' n1 n' xs xs' L := by
  have h0 : w'.heap[gb]? = some (.cells #[vl, vm] 50) := (k.block gb h.lt fun e => no_book ⟨_, _, h.cells⟩ h.r2 (by decide) e.symm).trans h.cells
  refine ⟨heap_cell h0 1 _ rfl, heap_frozen h0 1, h.low, set_book1 h0 _, ?_, row_block h' fun g hg => set_other _ _ _ _ fun e => no_book ⟨_, _, h0⟩ h' (by decide) (hg.trans (congrArg some e)), fun x hx => ?_⟩
  · refine row_block h.r1 fun g hg => ?_
    rw [set_other _ _ _ _ fun e => no_book ⟨_, _, h.cells⟩ h.r1 (by decide) (hg.trans (congrArg some e))]
    exact k.block g (World.ownsRow.lt h.r1 g hg).2 fun e => kinds_apart h.r1 h.r2 (by decide) g hg e.symm
  · refine (h.ls x hx).block fun g hg => ?_
    rw [set_other _ _ _ _ fun e => no_book ⟨_, _, h.cells⟩ (h.ls x hx) (by decide) (hg.trans (congrArg some e))]
    exact k.block g (World.ownsRow.lt (h.ls x hx) g hg).2 fun e => kinds_apart (h.ls x hx) h.r2 (by decide) g hg e.symm
end
theorem new_four (w : World) (t : TypeId) (u0 u1 u2 u3 : Value) (j : Nat) (u : Value) (hj : [u0, u1, u2, u3][j]? = some u) : (w.alloc (.cells #[u0, u1, u2, u3] t)).cell? ⟨w.heap.size, j, none⟩ = some u := by
  rw [World.cell?_alloc_new]
  simpa using hj
end Go.Proofs.YtneifdbcjicfgaaDoor
