import Derived.Test.YtneifdbcjicfgaaDoorQG
import Derived.Test.YtneifdbcjicfgaaDoorQR
import Derived.Test.YtneifdbcjicfgaaDoorQH
/-
  TextLine: a line that is written word by word is cut into just these words.
-/
namespace Go.Proofs.YtneifdbcjicfgaaDoor
open Go Go.RowKit
namespace Tx

/-- a place where a word ends: a blank or a comment stands there -/
def Stop_ (s : ByteArray) (e : Nat) : Prop := e < s.size ∧ (at' s e = 35 ∨ blk (at' s e) = true)
/-- the text is that word, wherever it stands ahead of a stop -/
structure Okw (t : ByteArray) (k : Int) (tx : ByteArray) (n : Int) : Prop where
  pos : 0 < t.size
  h35 : at' t 0 ≠ 35
  nblk : blk (at' t 0) = false
  word : ∀ (s : ByteArray) (p : Nat), Has s p t.data.toList → Stop_ s (p + t.size) → wordP s p = .inl (⟨k, (p : Int), tx, n⟩, p + t.size)
theorem has_get {s t : ByteArray} {p : Nat} (h : Has s p t.data.toList) (j : Nat) (hj : j < t.size) : p + j < s.size ∧ at' s (p + j) = at' t j := by
  have h1 := h j (by rw [list_size]; exact hj)
  refine ⟨h1.1, ?_⟩
  rw [h1.2, at_get t j hj]
  rfl
theorem has_of {s t : ByteArray} {p : Nat} (h : ∀ j, j < t.size → p + j < s.size ∧ at' s (p + j) = at' t j) : Has s p t.data.toList := fun j hj => by
  rw [list_size] at hj
  have h1 := h j hj
  refine ⟨h1.1, ?_⟩
  rw [h1.2, at_get t j hj]
  rfl
theorem has_app {s a b : ByteArray} {p : Nat} (h : Has s p (a ++ b).data.toList) : Has s p a.data.toList ∧ Has s (p + a.size) b.data.toList := by
  have e : (a ++ b).data.toList = a.data.toList ++ b.data.toList := by rw [ByteArray.data_append, Array.toList_append]
  rw [e] at h
  refine ⟨h.left, ?_⟩
  have := h.right
  rw [list_size] at this
  exact this
theorem has_cut_eq {s t : ByteArray} {p : Nat} (h : Has s p t.data.toList) (hp : p + t.size ≤ s.size) : s.extract p (p + t.size) = t := by
  have h9 := has_extract h (by rw [list_size]; exact hp)
  rw [list_size] at h9
  rw [h9]
/-- one word -/
theorem wds_okw {t : ByteArray} {k : Int} {tx : ByteArray} {n : Int} (h : Okw t k tx n) (s : ByteArray) (p : Nat) (hs : Has s p t.data.toList) (he : Stop_ s (p + t.size)) : wds s p = fin [⟨k, (p : Int), tx, n⟩] (wds s (p + t.size)) := by
  have h0 := has_get hs 0 h.pos
  rw [Nat.add_zero] at h0
  have h1 := h.pos
  rw [wds_word s p h0.1 (by rw [h0.2]; exact h.h35) (by rw [h0.2]; exact h.nblk) _ _ (h.word s p hs he)]
  congr 1
  unfold bhd
  rw [if_neg]
  rintro ⟨_, _, h3, h4, _⟩
  rcases he.2 with h5 | h5
  · exact h3 h5
  · rw [h5] at h4
    cases h4
theorem wds_gap (s : ByteArray) : ∀ (m p : Nat), (∀ j, j < m → p + j < s.size ∧ at' s (p + j) ≠ 35 ∧ blk (at' s (p + j)) = true) → wds s p = wds s (p + m)
  | 0, p, _ => rfl
  | m + 1, p, h => by
    have h0 := h 0 (by omega)
    rw [Nat.add_zero] at h0
    rw [wds_blank s p h0.1 h0.2.1 h0.2.2, wds_gap s m (p + 1) (fun j hj => by
      have := h (j + 1) (by omega)
      rw [show p + (j + 1) = p + 1 + j by omega] at this
      exact this), show p + 1 + m = p + (m + 1) by omega]
/-- the line so far, and its words -/
def Lin (L : ByteArray) (W : List Wd) : Prop := ∀ s, Has s 0 L.data.toList → Stop_ s L.size → wds s 0 = fin W (wds s L.size)
/-- blanks alone -/
def Gap (g : ByteArray) : Prop := 0 < g.size ∧ ∀ j, j < g.size → at' g j ≠ 35 ∧ blk (at' g j) = true
theorem lin_gap {L g : ByteArray} {W : List Wd} (h : Lin L W) (hg : Gap g) : ∀ s, Has s 0 (L ++ g).data.toList → wds s 0 = fin W (wds s (L.size + g.size)) := fun s hs => by
  obtain ⟨h1, h2⟩ := has_app hs
  rw [Nat.zero_add] at h2
  have h3 := has_get h2 0 hg.1
  rw [Nat.add_zero] at h3
  rw [h s h1 ⟨h3.1, .inr (by rw [h3.2]; exact (hg.2 0 hg.1).2)⟩, wds_gap s g.size L.size (fun j hj => by
    have h4 := has_get h2 j hj
    rw [h4.2]
    exact ⟨h4.1, hg.2 j hj⟩)]
theorem lin_none {L g : ByteArray} {W : List Wd} (h : Lin L W) (hg : Gap g) : Lin (L ++ g) W := fun s hs _ => by
  rw [lin_gap h hg s hs, ByteArray.size_append]
theorem lin_word {L g t : ByteArray} {W : List Wd} {k n : Int} {tx : ByteArray} (h : Lin L W) (hg : Gap g) (ht : Okw t k tx n) : Lin (L ++ g ++ t) (W ++ [⟨k, ((L ++ g).size : Int), tx, n⟩]) := fun s hs he => by
  obtain ⟨h1, h2⟩ := has_app hs
  rw [Nat.zero_add] at h2
  have e : (L ++ g ++ t).size = (L ++ g).size + t.size := ByteArray.size_append
  rw [e] at he ⊢
  rw [lin_gap h hg s h1, ← ByteArray.size_append, wds_okw ht s (L ++ g).size h2 he, fin_fin]
theorem lin_first {t : ByteArray} {k n : Int} {tx : ByteArray} (ht : Okw t k tx n) : Lin t [⟨k, 0, tx, n⟩] := fun s hs he => by
  have h9 := wds_okw ht s 0 hs (by rw [Nat.zero_add]; exact he)
  rw [Nat.zero_add] at h9
  exact h9
theorem lin_end {L c : ByteArray} {W : List Wd} (h : Lin L W) : wds (L ++ ⟨#[35]⟩ ++ c) 0 = (W, 0, 0) := by
  have hsz : (L ++ ⟨#[35]⟩ ++ c).size = L.size + 1 + c.size := by
    rw [ByteArray.size_append, ByteArray.size_append]
    rfl
  have hall : Has (L ++ ⟨#[35]⟩ ++ c) 0 (L ++ ⟨#[35]⟩ ++ c).data.toList := has_of fun j hj => by
    rw [Nat.zero_add]
    exact ⟨hj, rfl⟩
  obtain ⟨h1, _⟩ := has_app hall
  obtain ⟨h2, h3⟩ := has_app h1
  rw [Nat.zero_add] at h3
  have h4 := has_get h3 0 (by decide)
  rw [Nat.add_zero] at h4
  have h5 : at' (⟨#[35]⟩ : ByteArray) 0 = 35 := by decide
  rw [h5] at h4
  rw [h _ h2 ⟨h4.1, .inl h4.2⟩, wds_hash _ _ h4.1 h4.2]
  unfold fin
  rw [if_pos rfl, List.append_nil]
end Tx
end Go.Proofs.YtneifdbcjicfgaaDoor

/-
  TextLine: signs, literals and numbers are words.
-/
namespace Go.Proofs.YtneifdbcjicfgaaDoor
open Go Go.RowKit
namespace Tx

set_option maxRecDepth 100000 in
theorem sgn_all : ∀ c ∈ sgnL, among lets (c : Int) = false ∧ dig (c : Int) = false ∧ c ≠ 45 ∧ c ≠ 34 ∧ c < 128 ∧ c ≠ 35 ∧ blk c = false := by decide +kernel
theorem stop_at {s : ByteArray} {e : Nat} (h : Stop_ s e) : at' s e = 35 ∨ at' s e = 32 ∨ at' s e = 9 := by
  rcases h.2 with h | h
  · exact .inl h
  · unfold blk at h
    simp at h
    exact .inr h
theorem okw_sign (c : Nat) (h : c ∈ sgnL) : Okw ⟨#[UInt8.ofNat c]⟩ 4 ⟨#[UInt8.ofNat c]⟩ 0 := by
  obtain ⟨h1, h2, h3, h4, h5, h6, h7⟩ := sgn_all c h
  have e0 : at' (⟨#[UInt8.ofNat c]⟩ : ByteArray) 0 = c := by
    show (UInt8.ofNat c).toNat = c
    exact UInt8.toNat_ofNat_of_lt' (show c < 256 by omega)
  refine ⟨Nat.one_pos, by rw [e0]; exact h6, by rw [e0]; exact h7, fun s p hs he => ?_⟩
  have g0 := has_get hs 0 Nat.one_pos
  rw [Nat.add_zero, e0] at g0
  have hd : Utf8.decode s p = (c, 1) := by rw [dec_asc s p (by omega), g0.2]
  have hx := has_cut_eq hs (by have := he.1; omega)
  have e1 : (⟨#[UInt8.ofNat c]⟩ : ByteArray).size = 1 := rfl
  rw [e1] at hx
  unfold wordP
  rw [hd]
  simp only
  rw [h1, h2, if_neg (by simp), if_neg (by simp [h3]), if_neg h4, if_pos (by unfold sgn; simpa using h), hx, e1]
theorem unq_has (s t : ByteArray) (i : Nat) (hm : Has s i (quo t).data.toList) : unq s (i : Int) = (t, ((i + (quo t).size : Nat) : Int), 0) := by
  have hqs := quo_size t
  have hx := has_extract hm (by have := has_size hm (by rw [list_size]; omega); exact this)
  have hsz := has_size hm (by rw [list_size]; omega)
  rw [list_size] at hx hsz
  rw [quo_list] at hm
  have h0 := hm.at0
  have hr := Has.cut (i + 1) (Nat.le_refl _) hm.tail
  rw [Nat.sub_self] at hr
  have hc := rnd t (s.extract (i + 1) s.size) t.size 0 0 0 (by omega) (Nat.zero_le _) hr (Nat.le_refl _)
  rw [List.take_zero, Nat.zero_add] at hc
  unfold unq
  rw [Int.toNat_natCast, hc, if_neg (by omega), if_neg (by rw [h0.2]; intro hh; rcases hh with hh | hh; omega; exact hh rfl), if_neg (by simp), show i + 1 + ((qs t 0).length + 1) = i + (quo t).size by omega, hx, if_neg (by intro hh; exact hh rfl)]
theorem okw_lit (t : ByteArray) : Okw (quo t) 3 t 0 := by
  have hqs := quo_size t
  have e0 : at' (quo t) 0 = 34 := by
    have h9 := toList_get (quo t) 0 (by omega)
    rw [ByteArray.toList_eq, quo_list] at h9
    have h8 : (34 : UInt8) = (quo t).get! 0 := Option.some.inj h9
    show ((quo t).get! 0).toNat = 34
    rw [← h8]
    rfl
  refine ⟨by omega, by rw [e0]; decide, by rw [e0]; decide, fun s p hs he => ?_⟩
  have g0 := has_get hs 0 (by omega)
  rw [Nat.add_zero, e0] at g0
  have hd : Utf8.decode s p = (34, 1) := by rw [dec_asc s p (by omega), g0.2]
  have hu := unq_has s t p hs
  unfold wordP
  rw [hd, hu]
  simp only
  rw [if_neg (show ¬ among lets ((34 : Nat) : Int) = true by decide +kernel), if_neg (by decide), if_pos trivial, if_neg (by decide), Int.toNat_natCast]
theorem dec_all : ∀ (n u : Nat), u ≤ n → AllD (Lib.decDigits u) ∧ dv 0 (Lib.decDigits u) = u ∧ Lib.decDigits u ≠ [] := by
  intro n
  induction n with
  | zero =>
    intro u hu
    obtain rfl : u = 0 := by omega
    rw [Lib.decDigits_one (by omega)]
    refine ⟨fun c hc => ?_, by decide, by simp⟩
    simp at hc
    subst hc
    decide
  | succ n ih =>
    intro u hu
    by_cases h10 : u < 10
    · rw [Lib.decDigits_one h10]
      have e : (UInt8.ofNat (48 + u)).toNat = 48 + u := UInt8.toNat_ofNat_of_lt' (show 48 + u < 256 by omega)
      refine ⟨fun c hc => ?_, ?_, by simp⟩
      · simp at hc
        subst hc
        have e' : (48 + UInt8.ofNat u) = UInt8.ofNat (48 + u) := by simp
        first | (rw [e']; omega) | omega
      · show 0 * 10 + ((UInt8.ofNat (48 + u)).toNat - 48) = u
        omega
    · obtain ⟨h1, h2, _⟩ := ih (u / 10) (by omega)
      have e : (UInt8.ofNat (48 + u % 10)).toNat = 48 + u % 10 := UInt8.toNat_ofNat_of_lt' (show 48 + u % 10 < 256 by omega)
      rw [Lib.decDigits, dif_neg h10]
      refine ⟨fun c hc => ?_, ?_, by simp⟩
      · rcases List.mem_append.1 hc with hc | hc
        · exact h1 c hc
        · rw [List.mem_singleton] at hc
          rw [hc, e]
          omega
      · rw [dv_snoc, h2, e]
        omega
theorem num_back (v : Int) (h1 : -9223372036854775808 ≤ v) (h2 : v ≤ 9223372036854775807) : numP (Lib.itoa v) = some v := by
  unfold Lib.itoa
  by_cases hn : v < 0
  · rw [if_pos hn]
    obtain ⟨ha, hd, hne⟩ := dec_all v.natAbs v.natAbs (Nat.le_refl _)
    cases hl : Lib.decDigits v.natAbs with
    | nil => exact absurd hl hne
    | cons c r =>
      rw [hl] at ha hd
      rw [numP_minus c r ha]
      have hc : ¬ c.toNat = 48 := fun h48 => by
        have hcc : c = 48 := u8_eq h48
        subst hcc
        have := (dig_head v.natAbs v.natAbs (Nat.le_refl _) r hl).1
        omega
      rw [if_neg hc, hd, if_pos (by omega)]
      congr 1
      omega
  · rw [if_neg hn]
    obtain ⟨ha, hd, hne⟩ := dec_all v.toNat v.toNat (Nat.le_refl _)
    cases hl : Lib.decDigits v.toNat with
    | nil => exact absurd hl hne
    | cons c r =>
      rw [hl] at ha hd
      rw [numP_plain c r ha]
      by_cases h48 : c.toNat = 48
      · have hcc : c = 48 := u8_eq h48
        subst hcc
        have h9 := dig_head v.toNat v.toNat (Nat.le_refl _) r hl
        rw [if_pos (by decide), if_pos h9.2]
        congr 1
        omega
      · rw [if_neg h48, hd, if_pos (by omega)]
        congr 1
        omega
/-- the digits of a text that is all digits -/
theorem dEnd_all (s : ByteArray) : ∀ (m p : Nat), (∀ j, j < m → p + j < s.size ∧ dig (at' s (p + j) : Int) = true) → p + m < s.size → dig (at' s (p + m) : Int) = false → dEnd s p = p + m
  | 0, p, _, h1, h2 => dEnd_no s p h1 h2
  | m + 1, p, h, h1, h2 => by
    have h0 := h 0 (by omega)
    rw [Nat.add_zero] at h0
    rw [dEnd_in s p h0.1 h0.2, dEnd_all s m (p + 1) (fun j hj => by
      have := h (j + 1) (by omega)
      rw [show p + (j + 1) = p + 1 + j by omega] at this
      exact this) (by rw [show p + 1 + m = p + (m + 1) by omega]; exact h1) (by rw [show p + 1 + m = p + (m + 1) by omega]; exact h2)]
    omega
theorem stop_dig {s : ByteArray} {e : Nat} (h : Stop_ s e) : dig (at' s e : Int) = false := by
  rcases stop_at h with h | h | h <;> rw [h] <;> decide
theorem okw_num (v : Int) (h1 : -9223372036854775808 ≤ v) (h2 : v ≤ 9223372036854775807) : Okw ⟨(Lib.itoa v).toArray⟩ 2 ⟨(Lib.itoa v).toArray⟩ v := by
  have hnb := num_back v h1 h2
  by_cases hn : v < 0
  · obtain ⟨ha, _, hne⟩ := dec_all v.natAbs v.natAbs (Nat.le_refl _)
    have hi : Lib.itoa v = 45 :: Lib.decDigits v.natAbs := by unfold Lib.itoa; rw [if_pos hn]
    rw [hi] at hnb ⊢
    generalize Lib.decDigits v.natAbs = D at *
    have hsz : (⟨(45 :: D).toArray⟩ : ByteArray).size = D.length + 1 := by show (45 :: D).toArray.size = _; simp
    have hDl : 0 < D.length := List.length_pos_iff.2 hne
    have e0 : at' (⟨(45 :: D).toArray⟩ : ByteArray) 0 = 45 := by
      rw [at_get _ 0 (by omega)]
      rfl
    refine ⟨by omega, by rw [e0]; decide, by rw [e0]; decide, fun s p hs he => ?_⟩
    have g0 := has_get hs 0 (by omega)
    rw [Nat.add_zero, e0] at g0
    have hd : Utf8.decode s p = (45, 1) := by rw [dec_asc s p (by omega), g0.2]
    have hx := has_cut_eq hs (by have := he.1; omega)
    have hh : Has s p (45 :: D) := hs
    have hst := stop_dig he
    have he1 := he.1
    rw [hsz] at he1 hst hx
    have hde : dEnd s (p + 1) = p + (D.length + 1) := by
      rw [dEnd_all s D.length (p + 1) (fun j hj => ?_) (by omega) (by rw [show p + 1 + D.length = p + (D.length + 1) by omega]; exact hst)]
      · omega
      · have h9 := hh.tail j hj
        have h8 := ha D[j] (List.getElem_mem hj)
        refine ⟨h9.1, ?_⟩
        rw [h9.2]
        unfold dig
        simp
        omega
    have hnf : nFrom s p = p + 1 := by unfold nFrom; rw [hd]; rfl
    unfold wordP
    rw [hd, hnf, hde, hx]
    simp only
    rw [if_neg (show ¬ among lets ((45 : Nat) : Int) = true by decide +kernel), if_pos (.inr trivial), if_neg (by omega), hsz]
    rw [hnb]
  · obtain ⟨ha, _, hne⟩ := dec_all v.toNat v.toNat (Nat.le_refl _)
    have hi : Lib.itoa v = Lib.decDigits v.toNat := by unfold Lib.itoa; rw [if_neg hn]
    rw [hi] at hnb ⊢
    generalize Lib.decDigits v.toNat = D at *
    have hsz : (⟨D.toArray⟩ : ByteArray).size = D.length := by show D.toArray.size = _; simp
    have hDl : 0 < D.length := List.length_pos_iff.2 hne
    have hall : ∀ j (hj : j < D.length), 48 ≤ at' (⟨D.toArray⟩ : ByteArray) j ∧ at' (⟨D.toArray⟩ : ByteArray) j ≤ 57 := fun j hj => by
      rw [at_get _ j (by omega)]
      exact ha D[j] (List.getElem_mem hj)
    have e0 := hall 0 hDl
    refine ⟨by omega, by omega, ?_, fun s p hs he => ?_⟩
    · unfold blk
      rw [decide_eq_false (by omega), decide_eq_false (by omega)]
      rfl
    have g0 := has_get hs 0 (by omega)
    rw [Nat.add_zero] at g0
    have hd : Utf8.decode s p = (at' s p, 1) := dec_asc s p (by omega)
    have hx := has_cut_eq hs (by have := he.1; omega)
    have hst := stop_dig he
    have he1 := he.1
    rw [hsz] at he1 hst hx
    have hde : dEnd s p = p + D.length := dEnd_all s D.length p (fun j hj => by
      have h9 := has_get hs j (by omega)
      have h8 := hall j hj
      refine ⟨h9.1, ?_⟩
      rw [h9.2]
      unfold dig
      simp
      omega) he1 hst
    have hc : 48 ≤ at' s p ∧ at' s p ≤ 57 := by rw [g0.2]; exact e0
    generalize at' s p = c at *
    have hlt : among lets (c : Int) = false := by
      have key : ∀ d : Nat, d < 10 → among lets ((48 + d : Nat) : Int) = false := by decide +kernel
      have := key (c - 48) (by omega)
      rw [show 48 + (c - 48) = c by omega] at this
      exact this
    have hdg : dig (c : Int) = true := by unfold dig; simp; omega
    have hnf : nFrom s p = p := by unfold nFrom; rw [hd]; simp only; rw [if_neg (by omega)]
    unfold wordP
    rw [hd, hnf, hde, hx]
    simp only
    rw [hlt, hdg, if_neg (by simp), if_pos (.inl rfl), if_neg (by omega), hsz]
    rw [hnb]
end Tx
end Go.Proofs.YtneifdbcjicfgaaDoor

/-
  TextLine: names are words.
-/
namespace Go.Proofs.YtneifdbcjicfgaaDoor
open Go Go.RowKit
namespace Tx

/-- a name of m runes -/
structure NmT (t : ByteArray) (m : Nat) : Prop where
  pos : 0 < t.size
  some_ : 0 < m
  nend : ∀ (s : ByteArray) (p : Nat), Has s p t.data.toList → nEnd s p = nEnd s (p + t.size)
  first : ∀ (s : ByteArray) (p : Nat), Has s p t.data.toList → among lets ((Utf8.decode s p).1 : Int) = true
  name : ∀ (s : ByteArray), Has s 0 t.data.toList → nmE s 0 0 = nmE s m t.size
theorem enc_pos (r : Nat) (hv : Utf8.valid (r : Int) = true) : 0 < (Utf8.encode (r : Int)).size := by
  have hz : Has (Utf8.encode (r : Int)) 0 (Utf8.encode (r : Int)).data.toList := has_of fun j hj => by rw [Nat.zero_add]; exact ⟨hj, rfl⟩
  have h1 := dec_enc _ 0 r hv hz
  rcases Nat.eq_zero_or_pos (Utf8.encode (r : Int)).size with h0 | h0
  · exfalso
    have h2 : 1 ≤ (Utf8.decode (Utf8.encode (r : Int)) 0).2 := by
      rw [decode_eq]
      unfold rd
      repeat' split
      all_goals simp
    rw [h1] at h2
    simp only at h2
    omega
  · exact h0
theorem no_stray {s : ByteArray} {p r : Nat} (hd : (Utf8.decode s p).1 = r) (hr : nmR (r : Int) = true) : stray s p = false := by
  cases h : stray s p with
  | false => rfl
  | true =>
    have h1 := stray_rune s p h
    rw [hd] at h1
    subst h1
    rw [show ((65533 : Nat) : Int) = 65533 from rfl, nmR_no] at hr
    cases hr
theorem nm_one (r : Nat) (hv : Utf8.valid (r : Int) = true) (hl : among lets (r : Int) = true) : NmT (Utf8.encode (r : Int)) 1 := by
  have hp := enc_pos r hv
  refine ⟨hp, Nat.one_pos, fun s p hs => ?_, fun s p hs => ?_, fun s hs => ?_⟩
  · have h1 := dec_enc s p r hv hs
    have h0 := has_get hs 0 hp
    rw [Nat.add_zero] at h0
    rw [nEnd_in s p h0.1 (by rw [h1]; exact among_nmR hl), h1]
  · rw [dec_enc s p r hv hs]
    exact hl
  · have h1 := dec_enc s 0 r hv hs
    have h0 := has_get hs 0 hp
    rw [Nat.add_zero] at h0
    rw [nmE_step s 0 0 h0.1 (by omega) (no_stray (r := r) (by rw [h1]) (among_nmR hl)) (by rw [h1]; simp [hl, among_nmR hl]), h1]
    simp only [Nat.zero_add]
theorem nm_more {t : ByteArray} {m : Nat} (h : NmT t m) (hm : m < 48) (r : Nat) (hv : Utf8.valid (r : Int) = true) (hr : nmR (r : Int) = true) : NmT (t ++ Utf8.encode (r : Int)) (m + 1) := by
  have hp := enc_pos r hv
  have hpt := h.pos
  refine ⟨by rw [ByteArray.size_append]; omega, by omega, fun s p hs => ?_, fun s p hs => ?_, fun s hs => ?_⟩
  · obtain ⟨h1, h2⟩ := has_app hs
    have h3 := dec_enc s (p + t.size) r hv h2
    have h0 := has_get h2 0 hp
    rw [Nat.add_zero] at h0
    rw [h.nend s p h1, nEnd_in s (p + t.size) h0.1 (by rw [h3]; exact hr), h3, ByteArray.size_append, Nat.add_assoc]
  · exact h.first s p (has_app hs).1
  · obtain ⟨h1, h2⟩ := has_app hs
    rw [Nat.zero_add] at h2
    have h3 := dec_enc s t.size r hv h2
    have h0 := has_get h2 0 hp
    rw [Nat.add_zero] at h0
    rw [h.name s h1, nmE_step s m t.size h0.1 (by omega) (no_stray (r := r) (by rw [h3]) hr) (by rw [h3]; rintro (⟨e, _⟩ | e); omega; rw [hr] at e; cases e), h3, ByteArray.size_append]
set_option maxRecDepth 100000 in
theorem stop_nm : nmR 35 = false ∧ nmR 32 = false ∧ nmR 9 = false := by decide +kernel
theorem okw_name {t : ByteArray} {m : Nat} (h : NmT t m) : Okw t 1 t 0 := by
  have hself : Has t 0 t.data.toList := has_of fun j hj => by rw [Nat.zero_add]; exact ⟨hj, rfl⟩
  have hf := among_nmR (h.first t 0 hself)
  have hns := stop_nm
  have hc : ∀ c : Nat, c < 128 → nmR (c : Int) = false → at' t 0 ≠ c := fun c hc hn e => by
    rw [dec_asc t 0 (by omega), e] at hf
    rw [hn] at hf
    cases hf
  have c1 := hc 35 (by omega) hns.1
  have c2 := hc 32 (by omega) hns.2.1
  have c3 := hc 9 (by omega) hns.2.2
  refine ⟨h.pos, c1, ?_, fun s p hs he => ?_⟩
  · unfold blk
    rw [decide_eq_false c2, decide_eq_false c3]
    rfl
  · have hx := has_cut_eq hs (by have := he.1; omega)
    have hne : nEnd s p = p + t.size := by
      rw [h.nend s p hs]
      refine nEnd_no s _ he.1 ?_
      rcases stop_at he with e | e | e
      · rw [dec_asc s _ (by omega), e]
        exact hns.1
      · rw [dec_asc s _ (by omega), e]
        exact hns.2.1
      · rw [dec_asc s _ (by omega), e]
        exact hns.2.2
    have hna : nmA t = (0, 0) := by
      unfold nmA
      rw [if_neg (by have := h.pos; omega), h.name t hself, nmE_out t m t.size (by omega)]
    unfold wordP
    rw [h.first s p hs, if_pos rfl, hne, hx, hna]
    rfl
end Tx
end Go.Proofs.YtneifdbcjicfgaaDoor
