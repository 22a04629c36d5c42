import Derived.Test.YtenhaogheilmoaaDoorQVB
import Derived.Test.YtenhaogheilmoaaDoorQK1
/-
  ArchiveOne: how long an archive of few records is; what is good of a list.
-/
namespace Go.Proofs.YtenhaogheilmoaaDoor
open Go Go.RowKit
open Wb

theorem valB_num (x : Nums) (nm : ByteArray) (l : List Nat) (t : Nat) (hx : x.nice) (h1 : 1 ≤ t) (h2 : t ≤ 9) : (valB x nm l t).length ≤ 10 := by
  unfold valB
  split
  · exact Wn.uint_len10 (zz x.c) (zz_lt x.c hx.2.1 hx.2.2)
  · rw [if_neg (by omega), if_neg (by omega)]
    have h := hx.1 t h1 (by omega) (by omega)
    exact Wn.uint_len10 (x.tag t).toNat (by omega)
theorem fld_len (x : Nums) (nm : ByteArray) (l : List Nat) (n : Nat) (B : Nat) (h : (valB x nm l (11 - n)).length ≤ B) : (if zeroT x nm l.length (11 - n) = true then [] else Wn.uint (11 - n) ++ valB x nm l (11 - n)).length ≤ B + 10 := by
  split
  · simp
  · have a := Wn.uint_len10 (11 - n) (by omega)
    rw [List.length_append]
    omega
theorem encN_tight (x : Nums) (nm : ByteArray) (l : List Nat) (hx : x.nice) (hs : nm.size ≤ 192) (hl : l.length ≤ 16384) : ∀ n, n ≤ 9 → (encN x nm l (n + 2)).length ≤ 32840 + n * 20
  | 0, _ => by
    have a := encN_small x nm l hx hs hl 2 (by omega)
    omega
  | n + 1, hn => by
    rw [encN_succ, List.length_append]
    have ih := encN_tight x nm l hx hs hl n (by omega)
    have a := fld_len x nm l (n + 2) 10 (valB_num x nm l (11 - (n + 2)) hx (by omega) (by omega))
    omega
theorem Rec.good.tight {r : Rec} (h : r.good) : (enc r.x r.nm r.l).length ≤ 33020 := by
  have := encN_tight r.x r.nm r.l h.nice h.short.1 h.short.2 9 (Nat.le_refl _)
  unfold enc
  omega
theorem rcs_len : ∀ rs : List Rec, (∀ r ∈ rs, r.good) → (Ar.rcs recC rs).length ≤ rs.length * 33040
  | [], _ => by simp [Ar.rcs]
  | r :: rs, h => by
    have ih := rcs_len rs fun q hq => h q (List.mem_cons_of_mem _ hq)
    have ht := (h r (List.mem_cons_self ..)).tight
    have e : Ar.rcs recC (r :: rs) = fr (Ar.rcb recC r) ++ Ar.rcs recC rs := by
      unfold Ar.rcs
      rw [List.flatMap_cons]
    have e2 : (Ar.rcb recC r).length = (enc r.x r.nm r.l).length + 2 := rfl
    have e3 := Wn.uint_len10 (Ar.rcb recC r).length (by omega)
    rw [e, List.length_append, fr_length, List.length_cons]
    omega
theorem pack_small (top : Nat) (rs : List Rec) (ht : top ≤ 9223372036854775807) (hg : ∀ r ∈ rs, r.good) (hn : rs.length ≤ 120) : (Ar.pack recC top rs).length ≤ 8388608 := by
  have e1 := fst_len top rs.length (by omega) (by omega)
  have e2 := lst_len (Ar.fore recC top rs)
  have e3 := rcs_len rs hg
  unfold Ar.pack
  rw [List.length_append]
  have e4 : (Ar.fore recC top rs).length = 5 + (Ar.fst top rs.length).length + (Ar.rcs recC rs).length := by
    unfold Ar.fore
    rw [List.length_append, List.length_append]
    rfl
  have e5 : rs.length * 33040 ≤ 120 * 33040 := Nat.mul_le_mul_right _ hn
  omega
theorem pack_pos (top : Nat) (rs : List Rec) : 0 < (Ar.pack recC top rs).length := by
  unfold Ar.pack
  rw [List.length_append]
  have := Ar.fr_pos (69 :: le4 (Wm.crc (Ar.fore recC top rs)))
  unfold Ar.lst
  omega
theorem recsAt_ok {w : World} {v : Value} {rs : List Rec} (h : RecsAt w v rs) : ∀ r ∈ rs, ok r.l := fun r hr => by
  obtain ⟨ao, cap, e, hm, hc⟩ := h
  obtain ⟨k, hk⟩ := List.mem_iff_getElem?.1 hr
  obtain ⟨b, off, d, -, -, hb⟩ := hc k r hk
  exact hb.good
/-- is a record valid? -/
def okR (r : Rec) : Bool := decide (chk r.x r.nm r.l = 0)
theorem filt_good {rs : List Rec} (h1 : ∀ r ∈ rs, r.x.fit) (h2 : ∀ r ∈ rs, ok r.l) : ∀ r ∈ rs.filter okR, r.good := fun r hr => by
  obtain ⟨hm, hk⟩ := List.mem_filter.1 hr
  exact ⟨of_decide_eq_true hk, h1 r hm, h2 r hm⟩
theorem filt_snoc (rs : List Rec) (k : Nat) (r : Rec) (h : rs[k]? = some r) : (rs.take (k + 1)).filter okR = (rs.take k).filter okR ++ (if okR r = true then [r] else []) := by
  rw [List.take_add_one, h, Option.toList_some, List.filter_append]
  congr 1
  by_cases hk : okR r = true
  · rw [if_pos hk, List.filter_cons_of_pos hk]
    rfl
  · rw [if_neg hk, List.filter_cons_of_neg hk]
    rfl
end Go.Proofs.YtenhaogheilmoaaDoor
