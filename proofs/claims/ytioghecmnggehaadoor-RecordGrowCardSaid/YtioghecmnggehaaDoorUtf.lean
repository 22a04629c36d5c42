/-
  UTF-8 as the model reads it: the reading at a place hangs on what stands there alone.
-/
import Derived.WalkKit
import Derived.Laws.RangeAny
import Derived.Laws.Runes
import Derived.Laws.Strings
namespace Go.Proofs.YtioghecmnggehaaDoor.Text
open Go Go.RowKit
namespace Tx

/-- the reading, of the bytes f 0, f 1 .. of which n stand there -/
def rd (f : Nat → Nat) (n : Nat) : Nat × Nat :=
  if f 0 < 0x80 then (f 0, 1)
  else if f 0 / 32 == 6 && (decide (1 < n) && f 1 / 64 == 2) then
    if (f 0 % 32) * 64 + f 1 % 64 ≥ 0x80 then ((f 0 % 32) * 64 + f 1 % 64, 2) else (Utf8.runeError, 1)
  else if f 0 / 16 == 14 && (decide (1 < n) && f 1 / 64 == 2) && (decide (2 < n) && f 2 / 64 == 2) then
    if (f 0 % 16) * 4096 + (f 1 % 64) * 64 + f 2 % 64 ≥ 0x800 && Utf8.valid (((f 0 % 16) * 4096 + (f 1 % 64) * 64 + f 2 % 64 : Nat) : Int) then ((f 0 % 16) * 4096 + (f 1 % 64) * 64 + f 2 % 64, 3) else (Utf8.runeError, 1)
  else if f 0 / 8 == 30 && (decide (1 < n) && f 1 / 64 == 2) && (decide (2 < n) && f 2 / 64 == 2) && (decide (3 < n) && f 3 / 64 == 2) then
    if (f 0 % 8) * 262144 + (f 1 % 64) * 4096 + (f 2 % 64) * 64 + f 3 % 64 ≥ 0x10000 && Utf8.valid (((f 0 % 8) * 262144 + (f 1 % 64) * 4096 + (f 2 % 64) * 64 + f 3 % 64 : Nat) : Int) then ((f 0 % 8) * 262144 + (f 1 % 64) * 4096 + (f 2 % 64) * 64 + f 3 % 64, 4) else (Utf8.runeError, 1)
  else (Utf8.runeError, 1)

/-- the byte at a place -/
def at' (s : ByteArray) (i : Nat) : Nat := (s.get! i).toNat

theorem decode_eq (s : ByteArray) (i : Nat) : Utf8.decode s i = rd (fun k => at' s (i + k)) (s.size - i) := by
  have h1 : decide (1 < s.size - i) = decide (i + 1 < s.size) := by rw [decide_eq_decide]; omega
  have h2 : decide (2 < s.size - i) = decide (i + 2 < s.size) := by rw [decide_eq_decide]; omega
  have h3 : decide (3 < s.size - i) = decide (i + 3 < s.size) := by rw [decide_eq_decide]; omega
  unfold Utf8.decode rd at'
  simp only [h1, h2, h3]

theorem rd_congr {f g : Nat → Nat} {n : Nat} (hn : 0 < n) (h : ∀ k, k < n → f k = g k) : rd f n = rd g n := by
  have h0 := h 0 hn
  unfold rd
  rw [h0]
  by_cases a1 : 1 < n
  · rw [h 1 a1]
    by_cases a2 : 2 < n
    · rw [h 2 a2]
      by_cases a3 : 3 < n
      · rw [h 3 a3]
      · simp [a1, a2, a3]
    · have a3 : ¬ 3 < n := by omega
      simp [a1, a2, a3]
  · have a2 : ¬ 2 < n := by omega
    have a3 : ¬ 3 < n := by omega
    simp [a1, a2, a3]

theorem rd_fits (f : Nat → Nat) (n : Nat) (hn : 0 < n) : 1 ≤ (rd f n).2 ∧ (rd f n).2 ≤ n ∧ (rd f n).2 ≤ 4 := by
  unfold rd
  repeat' split
  all_goals simp_all
  all_goals omega

theorem rd_cut (f : Nat → Nat) (n m : Nat) (hm : m ≤ n) (h : (rd f n).2 ≤ m) (h0 : 0 < m) : rd f m = rd f n := by
  by_cases e : m = n
  · rw [e]
  revert h
  unfold rd
  repeat' split
  all_goals simp_all [Utf8.runeError]
  all_goals first | omega | skip

theorem at_lt (s : ByteArray) (i : Nat) : at' s i < 256 := (s.get! i).toNat_lt
theorem at_get (s : ByteArray) (i : Nat) (h : i < s.size) : at' s i = (s[i]'h).toNat := by
  unfold at'
  rw [← get_at s i h]
  rfl
theorem size_cut (s : ByteArray) (a b : Nat) (hb : b ≤ s.size) : (s.extract a b).size = b - a := by
  rw [ByteArray.size_extract]
  omega
theorem at_cut (s : ByteArray) (a b i : Nat) (hb : b ≤ s.size) (h : i < b - a) : at' (s.extract a b) i = at' s (a + i) := by
  rw [at_get _ i (by rw [size_cut s a b hb]; exact h), at_get s (a + i) (by omega)]
  congr 1
  exact ByteArray.getElem_extract _
theorem decode_fits (s : ByteArray) (i : Nat) (h : i < s.size) : 1 ≤ (Utf8.decode s i).2 ∧ i + (Utf8.decode s i).2 ≤ s.size ∧ (Utf8.decode s i).2 ≤ 4 := by
  have := rd_fits (fun k => at' s (i + k)) (s.size - i) (by omega)
  rw [decode_eq]
  omega
theorem decode_part (s : ByteArray) (a b i : Nat) (hb : b ≤ s.size) (h : i < b - a) (hw : a + i + (Utf8.decode s (a + i)).2 ≤ b) : Utf8.decode (s.extract a b) i = Utf8.decode s (a + i) := by
  rw [decode_eq] at hw ⊢
  rw [decode_eq s, size_cut s a b hb]
  rw [rd_congr (g := fun k => at' s (a + i + k)) (by omega) (fun k hk => ?_)]
  · exact rd_cut _ _ _ (by omega) (by omega) (by omega)
  · show at' _ (i + k) = at' s (a + i + k)
    rw [at_cut s a b (i + k) hb (by omega), Nat.add_assoc]
theorem decode_drop (s : ByteArray) (a i : Nat) (h : a + i < s.size) : Utf8.decode (s.extract a s.size) i = Utf8.decode s (a + i) :=
  decode_part s a s.size i (Nat.le_refl _) (by omega) (by have := decode_fits s (a + i) h; omega)

/-- a stray byte stands there -/
def stray (s : ByteArray) (i : Nat) : Bool := decide (128 ≤ at' s i) && decide ((Utf8.decode s i).2 = 1)
theorem rd_stray (f : Nat → Nat) (n : Nat) (h0 : f 0 < 256) (h1 : f 1 < 256) (h2 : f 2 < 256) :
    (decide (128 ≤ f 0) && decide ((rd f n).2 = 1)) = (decide ((rd f n).1 = 65533) && !(decide (3 ≤ n) && decide (f 0 = 239 ∧ f 1 = 191 ∧ f 2 = 189))) := by
  rw [Bool.eq_iff_iff]
  unfold rd
  generalize f 0 = b0 at *
  generalize f 1 = b1 at *
  generalize f 2 = b2 at *
  generalize f 3 = b3 at *
  by_cases a0 : b0 < 128
  · simp [a0]; omega
  simp only [a0, if_false]
  by_cases a1 : (b0 / 32 == 6 && (decide (1 < n) && b1 / 64 == 2)) = true
  · simp only [a1, if_true]
    simp at a1
    split <;> simp [Utf8.runeError] <;> omega
  simp only [a1]
  by_cases a2 : (b0 / 16 == 14 && (decide (1 < n) && b1 / 64 == 2) && (decide (2 < n) && b2 / 64 == 2)) = true
  · simp only [a2, if_true]
    simp at a2
    by_cases a3 : (decide (b0 % 16 * 4096 + b1 % 64 * 64 + b2 % 64 ≥ 2048) && Utf8.valid ((b0 % 16 * 4096 + b1 % 64 * 64 + b2 % 64 : Nat) : Int)) = true
    · rw [if_pos a3]
      simp
      omega
    · rw [if_neg a3]
      simp [Utf8.runeError]
      simp [Utf8.valid] at a3
      omega
  simp only [a2]
  have a4 : ¬ (3 ≤ n ∧ b0 = 239 ∧ b1 = 191 ∧ b2 = 189) := by
    rintro ⟨x, rfl, rfl, rfl⟩
    simp at a2
    omega
  by_cases a3 : (b0 / 8 == 30 && (decide (1 < n) && b1 / 64 == 2) && (decide (2 < n) && b2 / 64 == 2) && (decide (3 < n) && b3 / 64 == 2)) = true
  · simp only [a3, if_true]
    by_cases a5 : (decide (b0 % 8 * 262144 + b1 % 64 * 4096 + b2 % 64 * 64 + b3 % 64 ≥ 65536) && Utf8.valid ((b0 % 8 * 262144 + b1 % 64 * 4096 + b2 % 64 * 64 + b3 % 64 : Nat) : Int)) = true
    · rw [if_pos a5]
      simp at a5 ⊢
      omega
    · rw [if_neg a5]
      simp [Utf8.runeError]
      omega
  simp only [a3]
  simp [Utf8.runeError]
  omega
/-- as the program tells it -/
theorem stray_eq (s : ByteArray) (i : Nat) :
    stray s i = (decide ((Utf8.decode s i).1 = 65533) && !(decide (3 ≤ s.size - i) && decide (at' s i = 239 ∧ at' s (i + 1) = 191 ∧ at' s (i + 2) = 189))) := by
  unfold stray
  rw [decode_eq]
  exact rd_stray (fun k => at' s (i + k)) (s.size - i) (at_lt s _) (at_lt s _) (at_lt s _)

/-- HasPrefix -/
def pre (s p : ByteArray) : Bool := decide (p.size ≤ s.size) && ((s.extract 0 p.size).toList == p.toList)
theorem toList_get (s : ByteArray) (k : Nat) (h : k < s.size) : s.toList[k]? = some (s.get! k) := by
  rw [ByteArray.toList_eq, List.getElem?_eq_getElem (by simpa using h)]
  congr 1
  have := get_at s k h
  rw [Nat.add_zero] at this
  rw [this]
  rfl
theorem toList_len (s : ByteArray) : s.toList.length = s.size := by
  rw [ByteArray.toList_eq]
  rfl
theorem u8_eq {a b : UInt8} (h : a.toNat = b.toNat) : a = b := UInt8.toNat_inj.1 h
theorem pre3 (s : ByteArray) (a b c : UInt8) : pre s ⟨#[a, b, c]⟩ = (decide (3 ≤ s.size) && decide (at' s 0 = a.toNat ∧ at' s 1 = b.toNat ∧ at' s 2 = c.toNat)) := by
  unfold pre
  show (decide (3 ≤ s.size) && _) = _
  by_cases h : 3 ≤ s.size
  · rw [decide_eq_true h, Bool.true_and, Bool.true_and, Bool.eq_iff_iff]
    have e : (s.extract 0 3).toList = [s.get! 0, s.get! 1, s.get! 2] := by
      have hz : (s.extract 0 3).size = 3 := size_cut s 0 3 h
      have key : ∀ k, k < 3 → (s.extract 0 3).get! k = s.get! k := fun k hk => u8_eq (by
        have := at_cut s 0 3 k h (by omega)
        rw [Nat.zero_add] at this
        exact this)
      apply List.ext_getElem?
      intro k
      match k with
      | 0 => rw [toList_get _ 0 (by omega), key 0 (by omega)]; rfl
      | 1 => rw [toList_get _ 1 (by omega), key 1 (by omega)]; rfl
      | 2 => rw [toList_get _ 2 (by omega), key 2 (by omega)]; rfl
      | k + 3 => rw [List.getElem?_eq_none (by rw [toList_len]; omega), List.getElem?_eq_none (by simp)]
    show ((s.extract 0 3).toList == _) = true ↔ _
    rw [e]
    have e2 : (⟨#[a, b, c]⟩ : ByteArray).toList = [a, b, c] := by rw [ByteArray.toList_eq]
    rw [e2]
    simp [at', UInt8.toNat_inj]
  · rw [decide_eq_false h, Bool.false_and, Bool.false_and]
theorem stray_pre (s : ByteArray) (i : Nat) : stray s i = (decide ((Utf8.decode s i).1 = 65533) && !(pre (s.extract i s.size) ⟨#[239, 191, 189]⟩)) := by
  rw [stray_eq, pre3, size_cut s i s.size (Nat.le_refl _)]
  congr 2
  by_cases h3 : 3 ≤ s.size - i
  · rw [at_cut s i s.size 0 (Nat.le_refl _) (by omega), at_cut s i s.size 1 (Nat.le_refl _) (by omega), at_cut s i s.size 2 (Nat.le_refl _) (by omega)]
    rfl
  · rw [decide_eq_false h3, Bool.false_and, Bool.false_and]

/-- the place behind the first n runes from p on -/
def offs (s : ByteArray) : Nat → Nat → Nat
  | 0, p => p
  | n + 1, p => if p < s.size then offs s n (p + (Utf8.decode s p).2) else p
theorem offs_end (s : ByteArray) (n p : Nat) (h : ¬ p < s.size) : offs s n p = p := by
  cases n with
  | zero => rfl
  | succ n => rw [offs, if_neg h]
theorem offs_le (s : ByteArray) : ∀ (n p : Nat), p ≤ s.size → p ≤ offs s n p ∧ offs s n p ≤ s.size
  | 0, p, h => ⟨Nat.le_refl _, h⟩
  | n + 1, p, h => by
    rw [offs]
    split
    · next h1 =>
      have h2 := decode_fits s p h1
      have h3 := offs_le s n (p + (Utf8.decode s p).2) h2.2.1
      omega
    · exact ⟨Nat.le_refl _, h⟩
theorem offs_mono (s : ByteArray) : ∀ (i j p : Nat), i ≤ j → p ≤ s.size → offs s i p ≤ offs s j p
  | 0, j, p, _, hp => (offs_le s j p hp).1
  | i + 1, 0, p, h, _ => by omega
  | i + 1, j + 1, p, h, hp => by
    rw [offs, offs]
    split
    · next h1 => exact offs_mono s i j _ (by omega) (decode_fits s p h1).2.1
    · exact Nat.le_refl _
theorem offs_far (s : ByteArray) : ∀ (n p : Nat), p ≤ s.size → s.size ≤ p + n → offs s n p = s.size
  | 0, p, h, h2 => by show p = s.size; omega
  | n + 1, p, h, h2 => by
    rw [offs]
    split
    · next h1 =>
      have h3 := decode_fits s p h1
      exact offs_far s n _ h3.2.1 (by omega)
    · omega
theorem offs_part (s : ByteArray) : ∀ (i j p : Nat), i ≤ j → p ≤ s.size → offs (s.extract 0 (offs s j p)) i p = offs s i p
  | 0, _, _, _, _ => rfl
  | i + 1, 0, p, h, _ => by omega
  | i + 1, j + 1, p, h, hp => by
    by_cases h1 : p < s.size
    · have h2 := decode_fits s p h1
      have h3 := offs_le s j _ h2.2.1
      have e : offs s (j + 1) p = offs s j (p + (Utf8.decode s p).2) := by rw [offs, if_pos h1]
      have hz : (s.extract 0 (offs s j (p + (Utf8.decode s p).2))).size = offs s j (p + (Utf8.decode s p).2) := size_cut s 0 _ h3.2
      have hd : Utf8.decode (s.extract 0 (offs s j (p + (Utf8.decode s p).2))) p = Utf8.decode s p := by
        rw [decode_part s 0 _ p h3.2 (by omega) (by rw [Nat.zero_add]; omega), Nat.zero_add]
      rw [e, offs, if_pos (by rw [hz]; omega), hd, offs, if_pos h1]
      exact offs_part s i j _ (by omega) h2.2.1
    · rw [offs_end s (j + 1) p h1, offs_end s (i + 1) p h1, offs_end _ (i + 1) p (by rw [size_cut s 0 p hp]; omega)]
/-- Clip -/
def clip (s : ByteArray) (n : Int) : ByteArray := s.extract 0 (offs s n.toNat 0)
/-- Valid from p on -/
def vld (s : ByteArray) (p : Nat) : Int := if h : p < s.size then (if stray s p then (p : Int) else vld s (p + (Utf8.decode s p).2)) else -1
termination_by s.size - p
decreasing_by
  have := decode_fits s p h
  omega
theorem vld_step (s : ByteArray) (p : Nat) (h : p < s.size) (hs : stray s p = false) : vld s p = vld s (p + (Utf8.decode s p).2) := by
  rw [vld, dif_pos h, hs]
  rfl
theorem vld_end (s : ByteArray) (p : Nat) (h : ¬ p < s.size) : vld s p = -1 := by
  rw [vld, dif_neg h]
theorem vld_hit (s : ByteArray) (p : Nat) (h : p < s.size) (hs : stray s p = true) : vld s p = (p : Int) := by
  rw [vld, dif_pos h, hs]
  rfl
theorem vld_no (s : ByteArray) (p : Nat) (h : p < s.size) (hv : vld s p = -1) : stray s p = false := by
  cases hs : stray s p with
  | false => rfl
  | true =>
    rw [vld_hit s p h hs] at hv
    omega
theorem vld_offs (s : ByteArray) : ∀ (n p : Nat), vld s p = -1 → vld s (offs s n p) = -1
  | 0, _, h => h
  | n + 1, p, h => by
    rw [offs]
    split
    · next h1 =>
      rw [vld_step s p h1 (vld_no s p h1 h)] at h
      exact vld_offs s n _ h
    · exact h
theorem stray_part (s : ByteArray) (a b i : Nat) (hb : b ≤ s.size) (h : i < b - a) (hw : a + i + (Utf8.decode s (a + i)).2 ≤ b) : stray (s.extract a b) i = stray s (a + i) := by
  unfold stray
  rw [decode_part s a b i hb h hw, at_cut s a b i hb h]
theorem vld_drop (s : ByteArray) (a : Nat) (ha : a ≤ s.size) : ∀ (k i : Nat), s.size - (a + i) ≤ k → vld s (a + i) = -1 → vld (s.extract a s.size) i = -1
  | k, i, hk, h => by
    have hz := size_cut s a s.size (Nat.le_refl _)
    by_cases h1 : a + i < s.size
    · have h2 := decode_fits s (a + i) h1
      have h3 : stray (s.extract a s.size) i = false := by rw [stray_part s a s.size i (Nat.le_refl _) (by omega) h2.2.1]; exact vld_no s _ h1 h
      rw [vld_step _ i (by omega) h3, decode_drop s a i h1]
      rw [vld_step s (a + i) h1 (vld_no s _ h1 h)] at h
      match k, hk with
      | 0, hk => omega
      | k + 1, hk =>
        exact vld_drop s a ha k (i + (Utf8.decode s (a + i)).2) (by omega) (by rw [← Nat.add_assoc]; exact h)
    · exact vld_end _ _ (by omega)
theorem vld_take (s : ByteArray) : ∀ (n p : Nat), p ≤ s.size → vld s p = -1 → vld (s.extract 0 (offs s n p)) p = -1
  | 0, p, hp, _ => vld_end _ _ (by rw [offs, size_cut s 0 p hp]; omega)
  | n + 1, p, hp, h => by
    by_cases h1 : p < s.size
    · have h2 := decode_fits s p h1
      have h3 := offs_le s n _ h2.2.1
      have e : offs s (n + 1) p = offs s n (p + (Utf8.decode s p).2) := by rw [offs, if_pos h1]
      rw [e]
      have hz := size_cut s 0 (offs s n (p + (Utf8.decode s p).2)) h3.2
      have hd : Utf8.decode (s.extract 0 (offs s n (p + (Utf8.decode s p).2))) p = Utf8.decode s p := by
        rw [decode_part s 0 _ p h3.2 (by omega) (by rw [Nat.zero_add]; omega), Nat.zero_add]
      have hs : stray (s.extract 0 (offs s n (p + (Utf8.decode s p).2))) p = false := by
        rw [stray_part s 0 _ p h3.2 (by omega) (by rw [Nat.zero_add]; omega), Nat.zero_add]
        exact vld_no s p h1 h
      rw [vld_step _ p (by omega) hs, hd]
      rw [vld_step s p h1 (vld_no s p h1 h)] at h
      exact vld_take s n _ h2.2.1 h
    · rw [offs_end s _ p h1]
      exact vld_end _ _ (by rw [size_cut s 0 p hp]; omega)
end Tx
end Go.Proofs.YtioghecmnggehaaDoor.Text
