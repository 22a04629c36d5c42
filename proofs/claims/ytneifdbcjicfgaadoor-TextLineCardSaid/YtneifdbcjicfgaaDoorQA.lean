import Derived.WalkKit
import Derived.Laws.RangeAny
import Derived.Laws.Runes
import Derived.Laws.Strings
import Derived.Test.YtneifdbcjicfgaaDoorChecked
import Derived.Deep.MidRow
import Derived.Laws.IdiomStrings
import Derived.Laws.Concat
import Derived.Deep.QuietTactic
import Derived.BigQuiet
import Derived.WalkSmall
import Derived.Laws.Rows
import Derived.Laws.AppendOwnNone
import Derived.Maps.AppendAt
import Derived.WalkSpells
import Derived.WalkLawsBesides
import Derived.Lib.AppendStr
import Derived.OwnWalk
/-
  UTF-8 as the model reads it: the reading at a place hangs on what stands there alone.
-/
namespace Go.Proofs.YtneifdbcjicfgaaDoor
open Go Go.RowKit
namespace Tx

/-- the reading, of the bytes f 0, f 1 .. of which n stand there -/
def rd (f : Nat → Nat) (n : Nat) : Nat × Nat :=
  if f 0 < 0x80 then (f 0, 1)
  else if f 0 / 32 == 6 && (decide (1 < n) && f 1 / 64 == 2) then
    if (f 0 % 32) * 64 + f 1 % 64 ≥ 0x80 then ((f 0 % 32) * 64 + f 1 % 64, 2) else (Utf8.runeError, 1)
  else if f 0 / 16 == 14 && (decide (1 < n) && f 1 / 64 == 2) && (decide (2 < n) && f 2 / 64 == 2) then
    if (f 0 % 16) * 4096 + (f 1 % 64) * 64 + f 2 % 64 ≥ 0x800 && Utf8.valid (((f 0 % 16) * 4096 + (f 1 % 64) * 64 + f 2 % 64 : Nat) : Int) then ((f 0 % 16) * 4096 + (f 1 % 64) * 64 + f 2 % 64, 3) else (Utf8.runeError, 1)
  else if f 0 / 8 == 30 && (decide (1 < n) && f 1 / 64 == 2) && (decide (2 < n) && f 2 / 64 == 2) && (decide (3 < n) && f 3 / 64 == 2) then
    if (f 0 % 8) * 262144 + (f 1 % 64) * 4096 + (f 2 % 64) * 64 + f 3 % 64 ≥ 0x10000 && Utf8.valid (((f 0 % 8) * 262144 + (f 1 % 64) * 4096 + (f 2 % 64) * 64 + f 3 % 64 : Nat) : Int) then ((f 0 % 8) * 262144 + (f 1 % 64) * 4096 + (f 2 % 64) * 64 + f 3 % 64, 4) else (Utf8.runeError, 1)
  else (Utf8.runeError, 1)

/-- the byte at a place -/
def at' (s : ByteArray) (i : Nat) : Nat := (s.get! i).toNat

theorem decode_eq (s : ByteArray) (i : Nat) : Utf8.decode s i = rd (fun k => at' s (i + k)) (s.size - i) := by
  have h1 : decide (1 < s.size - i) = decide (i + 1 < s.size) := by rw [decide_eq_decide]; omega
  have h2 : decide (2 < s.size - i) = decide (i + 2 < s.size) := by rw [decide_eq_decide]; omega
  have h3 : decide (3 < s.size - i) = decide (i + 3 < s.size) := by rw [decide_eq_decide]; omega
  unfold Utf8.decode rd at'
  simp only [h1, h2, h3]

theorem rd_congr {f g : Nat → Nat} {n : Nat} (hn : 0 < n) (h : ∀ k, k < n → f k = g k) : rd f n = rd g n := by
  have h0 := h 0 hn
  unfold rd
  rw [h0]
  by_cases a1 : 1 < n
  · rw [h 1 a1]
    by_cases a2 : 2 < n
    · rw [h 2 a2]
      by_cases a3 : 3 < n
      · rw [h 3 a3]
      · simp [a1, a2, a3]
    · have a3 : ¬ 3 < n := by omega
      simp [a1, a2, a3]
  · have a2 : ¬ 2 < n := by omega
    have a3 : ¬ 3 < n := by omega
    simp [a1, a2, a3]

theorem rd_fits (f : Nat → Nat) (n : Nat) (hn : 0 < n) : 1 ≤ (rd f n).2 ∧ (rd f n).2 ≤ n ∧ (rd f n).2 ≤ 4 := by
  unfold rd
  repeat' split
  all_goals simp_all
  all_goals omega

theorem rd_cut (f : Nat → Nat) (n m : Nat) (hm : m ≤ n) (h : (rd f n).2 ≤ m) (h0 : 0 < m) : rd f m = rd f n := by
  by_cases e : m = n
  · rw [e]
  revert h
  unfold rd
  repeat' split
  all_goals simp_all [Utf8.runeError]
  all_goals first | omega | skip

theorem at_lt (s : ByteArray) (i : Nat) : at' s i < 256 := (s.get! i).toNat_lt
theorem at_get (s : ByteArray) (i : Nat) (h : i < s.size) : at' s i = (s[i]'h).toNat := by
  unfold at'
  rw [← get_at s i h]
  rfl
theorem size_cut (s : ByteArray) (a b : Nat) (hb : b ≤ s.size) : (s.extract a b).size = b - a := by
  rw [ByteArray.size_extract]
  omega
theorem at_cut (s : ByteArray) (a b i : Nat) (hb : b ≤ s.size) (h : i < b - a) : at' (s.extract a b) i = at' s (a + i) := by
  rw [at_get _ i (by rw [size_cut s a b hb]; exact h), at_get s (a + i) (by omega)]
  congr 1
  exact ByteArray.getElem_extract _
theorem decode_fits (s : ByteArray) (i : Nat) (h : i < s.size) : 1 ≤ (Utf8.decode s i).2 ∧ i + (Utf8.decode s i).2 ≤ s.size ∧ (Utf8.decode s i).2 ≤ 4 := by
  have := rd_fits (fun k => at' s (i + k)) (s.size - i) (by omega)
  rw [decode_eq]
  omega
theorem decode_part (s : ByteArray) (a b i : Nat) (hb : b ≤ s.size) (h : i < b - a) (hw : a + i + (Utf8.decode s (a + i)).2 ≤ b) : Utf8.decode (s.extract a b) i = Utf8.decode s (a + i) := by
  rw [decode_eq] at hw ⊢
  rw [decode_eq s, size_cut s a b hb]
  rw [rd_congr (g := fun k => at' s (a + i + k)) (by omega) (fun k hk => ?_)]
  · exact rd_cut _ _ _ (by omega) (by omega) (by omega)
  · show at' _ (i + k) = at' s (a + i + k)
    rw [at_cut s a b (i + k) hb (by omega), Nat.add_assoc]
theorem decode_drop (s : ByteArray) (a i : Nat) (h : a + i < s.size) : Utf8.decode (s.extract a s.size) i = Utf8.decode s (a + i) :=
  decode_part s a s.size i (Nat.le_refl _) (by omega) (by have := decode_fits s (a + i) h; omega)

/-- a stray byte stands there -/
def stray (s : ByteArray) (i : Nat) : Bool := decide (128 ≤ at' s i) && decide ((Utf8.decode s i).2 = 1)
theorem rd_stray (f : Nat → Nat) (n : Nat) (h0 : f 0 < 256) (h1 : f 1 < 256) (h2 : f 2 < 256) :
    (decide (128 ≤ f 0) && decide ((rd f n).2 = 1)) = (decide ((rd f n).1 = 65533) && !(decide (3 ≤ n) && decide (f 0 = 239 ∧ f 1 = 191 ∧ f 2 = 189))) := by
  rw [Bool.eq_iff_iff]
  unfold rd
  generalize f 0 = b0 at *
  generalize f 1 = b1 at *
  generalize f 2 = b2 at *
  generalize f 3 = b3 at *
  by_cases a0 : b0 < 128
  · simp [a0]; omega
  simp only [a0, if_false]
  by_cases a1 : (b0 / 32 == 6 && (decide (1 < n) && b1 / 64 == 2)) = true
  · simp only [a1, if_true]
    simp at a1
    split <;> simp [Utf8.runeError] <;> omega
  simp only [a1]
  by_cases a2 : (b0 / 16 == 14 && (decide (1 < n) && b1 / 64 == 2) && (decide (2 < n) && b2 / 64 == 2)) = true
  · simp only [a2, if_true]
    simp at a2
    by_cases a3 : (decide (b0 % 16 * 4096 + b1 % 64 * 64 + b2 % 64 ≥ 2048) && Utf8.valid ((b0 % 16 * 4096 + b1 % 64 * 64 + b2 % 64 : Nat) : Int)) = true
    · rw [if_pos a3]
      simp
      omega
    · rw [if_neg a3]
      simp [Utf8.runeError]
      simp [Utf8.valid] at a3
      omega
  simp only [a2]
  have a4 : ¬ (3 ≤ n ∧ b0 = 239 ∧ b1 = 191 ∧ b2 = 189) := by
    rintro ⟨x, rfl, rfl, rfl⟩
    simp at a2
    omega
  by_cases a3 : (b0 / 8 == 30 && (decide (1 < n) && b1 / 64 == 2) && (decide (2 < n) && b2 / 64 == 2) && (decide (3 < n) && b3 / 64 == 2)) = true
  · simp only [a3, if_true]
    by_cases a5 : (decide (b0 % 8 * 262144 + b1 % 64 * 4096 + b2 % 64 * 64 + b3 % 64 ≥ 65536) && Utf8.valid ((b0 % 8 * 262144 + b1 % 64 * 4096 + b2 % 64 * 64 + b3 % 64 : Nat) : Int)) = true
    · rw [if_pos a5]
      simp at a5 ⊢
      omega
    · rw [if_neg a5]
      simp [Utf8.runeError]
      omega
  simp only [a3]
  simp [Utf8.runeError]
  omega
/-- as the program tells it -/
theorem stray_eq (s : ByteArray) (i : Nat) :
    stray s i = (decide ((Utf8.decode s i).1 = 65533) && !(decide (3 ≤ s.size - i) && decide (at' s i = 239 ∧ at' s (i + 1) = 191 ∧ at' s (i + 2) = 189))) := by
  unfold stray
  rw [decode_eq]
  exact rd_stray (fun k => at' s (i + k)) (s.size - i) (at_lt s _) (at_lt s _) (at_lt s _)

/-- HasPrefix -/
def pre (s p : ByteArray) : Bool := decide (p.size ≤ s.size) && ((s.extract 0 p.size).toList == p.toList)
theorem toList_get (s : ByteArray) (k : Nat) (h : k < s.size) : s.toList[k]? = some (s.get! k) := by
  rw [ByteArray.toList_eq, List.getElem?_eq_getElem (by simpa using h)]
  congr 1
  have := get_at s k h
  rw [Nat.add_zero] at this
  rw [this]
  rfl
theorem toList_len (s : ByteArray) : s.toList.length = s.size := by
  rw [ByteArray.toList_eq]
  rfl
theorem u8_eq {a b : UInt8} (h : a.toNat = b.toNat) : a = b := UInt8.toNat_inj.1 h
theorem pre3 (s : ByteArray) (a b c : UInt8) : pre s ⟨#[a, b, c]⟩ = (decide (3 ≤ s.size) && decide (at' s 0 = a.toNat ∧ at' s 1 = b.toNat ∧ at' s 2 = c.toNat)) := by
  unfold pre
  show (decide (3 ≤ s.size) && _) = _
  by_cases h : 3 ≤ s.size
  · rw [decide_eq_true h, Bool.true_and, Bool.true_and, Bool.eq_iff_iff]
    have e : (s.extract 0 3).toList = [s.get! 0, s.get! 1, s.get! 2] := by
      have hz : (s.extract 0 3).size = 3 := size_cut s 0 3 h
      have key : ∀ k, k < 3 → (s.extract 0 3).get! k = s.get! k := fun k hk => u8_eq (by
        have := at_cut s 0 3 k h (by omega)
        rw [Nat.zero_add] at this
        exact this)
      apply List.ext_getElem?
      intro k
      match k with
      | 0 => rw [toList_get _ 0 (by omega), key 0 (by omega)]; rfl
      | 1 => rw [toList_get _ 1 (by omega), key 1 (by omega)]; rfl
      | 2 => rw [toList_get _ 2 (by omega), key 2 (by omega)]; rfl
      | k + 3 => rw [List.getElem?_eq_none (by rw [toList_len]; omega), List.getElem?_eq_none (by simp)]
    show ((s.extract 0 3).toList == _) = true ↔ _
    rw [e]
    have e2 : (⟨#[a, b, c]⟩ : ByteArray).toList = [a, b, c] := by rw [ByteArray.toList_eq]
    rw [e2]
    simp [at', UInt8.toNat_inj]
  · rw [decide_eq_false h, Bool.false_and, Bool.false_and]
theorem stray_pre (s : ByteArray) (i : Nat) : stray s i = (decide ((Utf8.decode s i).1 = 65533) && !(pre (s.extract i s.size) ⟨#[239, 191, 189]⟩)) := by
  rw [stray_eq, pre3, size_cut s i s.size (Nat.le_refl _)]
  congr 2
  by_cases h3 : 3 ≤ s.size - i
  · rw [at_cut s i s.size 0 (Nat.le_refl _) (by omega), at_cut s i s.size 1 (Nat.le_refl _) (by omega), at_cut s i s.size 2 (Nat.le_refl _) (by omega)]
    rfl
  · rw [decide_eq_false h3, Bool.false_and, Bool.false_and]

/-- the place behind the first n runes from p on -/
def offs (s : ByteArray) : Nat → Nat → Nat
  | 0, p => p
  | n + 1, p => if p < s.size then offs s n (p + (Utf8.decode s p).2) else p
theorem offs_end (s : ByteArray) (n p : Nat) (h : ¬ p < s.size) : offs s n p = p := by
  cases n with
  | zero => rfl
  | succ n => rw [offs, if_neg h]
theorem offs_le (s : ByteArray) : ∀ (n p : Nat), p ≤ s.size → p ≤ offs s n p ∧ offs s n p ≤ s.size
  | 0, p, h => ⟨Nat.le_refl _, h⟩
  | n + 1, p, h => by
    rw [offs]
    split
    · next h1 =>
      have h2 := decode_fits s p h1
      have h3 := offs_le s n (p + (Utf8.decode s p).2) h2.2.1
      omega
    · exact ⟨Nat.le_refl _, h⟩
theorem offs_mono (s : ByteArray) : ∀ (i j p : Nat), i ≤ j → p ≤ s.size → offs s i p ≤ offs s j p
  | 0, j, p, _, hp => (offs_le s j p hp).1
  | i + 1, 0, p, h, _ => by omega
  | i + 1, j + 1, p, h, hp => by
    rw [offs, offs]
    split
    · next h1 => exact offs_mono s i j _ (by omega) (decode_fits s p h1).2.1
    · exact Nat.le_refl _
theorem offs_far (s : ByteArray) : ∀ (n p : Nat), p ≤ s.size → s.size ≤ p + n → offs s n p = s.size
  | 0, p, h, h2 => by show p = s.size; omega
  | n + 1, p, h, h2 => by
    rw [offs]
    split
    · next h1 =>
      have h3 := decode_fits s p h1
      exact offs_far s n _ h3.2.1 (by omega)
    · omega
theorem offs_part (s : ByteArray) : ∀ (i j p : Nat), i ≤ j → p ≤ s.size → offs (s.extract 0 (offs s j p)) i p = offs s i p
  | 0, _, _, _, _ => rfl
  | i + 1, 0, p, h, _ => by omega
  | i + 1, j + 1, p, h, hp => by
    by_cases h1 : p < s.size
    · have h2 := decode_fits s p h1
      have h3 := offs_le s j _ h2.2.1
      have e : offs s (j + 1) p = offs s j (p + (Utf8.decode s p).2) := by rw [offs, if_pos h1]
      have hz : (s.extract 0 (offs s j (p + (Utf8.decode s p).2))).size = offs s j (p + (Utf8.decode s p).2) := size_cut s 0 _ h3.2
      have hd : Utf8.decode (s.extract 0 (offs s j (p + (Utf8.decode s p).2))) p = Utf8.decode s p := by
        rw [decode_part s 0 _ p h3.2 (by omega) (by rw [Nat.zero_add]; omega), Nat.zero_add]
      rw [e, offs, if_pos (by rw [hz]; omega), hd, offs, if_pos h1]
      exact offs_part s i j _ (by omega) h2.2.1
    · rw [offs_end s (j + 1) p h1, offs_end s (i + 1) p h1, offs_end _ (i + 1) p (by rw [size_cut s 0 p hp]; omega)]
/-- Clip -/
def clip (s : ByteArray) (n : Int) : ByteArray := s.extract 0 (offs s n.toNat 0)
/-- Valid from p on -/
def vld (s : ByteArray) (p : Nat) : Int := if h : p < s.size then (if stray s p then (p : Int) else vld s (p + (Utf8.decode s p).2)) else -1
termination_by s.size - p
decreasing_by
  have := decode_fits s p h
  omega
theorem vld_step (s : ByteArray) (p : Nat) (h : p < s.size) (hs : stray s p = false) : vld s p = vld s (p + (Utf8.decode s p).2) := by
  rw [vld, dif_pos h, hs]
  rfl
theorem vld_end (s : ByteArray) (p : Nat) (h : ¬ p < s.size) : vld s p = -1 := by
  rw [vld, dif_neg h]
theorem vld_hit (s : ByteArray) (p : Nat) (h : p < s.size) (hs : stray s p = true) : vld s p = (p : Int) := by
  rw [vld, dif_pos h, hs]
  rfl
theorem vld_no (s : ByteArray) (p : Nat) (h : p < s.size) (hv : vld s p = -1) : stray s p = false := by
  cases hs : stray s p with
  | false => rfl
  | true =>
    rw [vld_hit s p h hs] at hv
    omega
theorem vld_offs (s : ByteArray) : ∀ (n p : Nat), vld s p = -1 → vld s (offs s n p) = -1
  | 0, _, h => h
  | n + 1, p, h => by
    rw [offs]
    split
    · next h1 =>
      rw [vld_step s p h1 (vld_no s p h1 h)] at h
      exact vld_offs s n _ h
    · exact h
theorem stray_part (s : ByteArray) (a b i : Nat) (hb : b ≤ s.size) (h : i < b - a) (hw : a + i + (Utf8.decode s (a + i)).2 ≤ b) : stray (s.extract a b) i = stray s (a + i) := by
  unfold stray
  rw [decode_part s a b i hb h hw, at_cut s a b i hb h]
theorem vld_drop (s : ByteArray) (a : Nat) (ha : a ≤ s.size) : ∀ (k i : Nat), s.size - (a + i) ≤ k → vld s (a + i) = -1 → vld (s.extract a s.size) i = -1
  | k, i, hk, h => by
    have hz := size_cut s a s.size (Nat.le_refl _)
    by_cases h1 : a + i < s.size
    · have h2 := decode_fits s (a + i) h1
      have h3 : stray (s.extract a s.size) i = false := by rw [stray_part s a s.size i (Nat.le_refl _) (by omega) h2.2.1]; exact vld_no s _ h1 h
      rw [vld_step _ i (by omega) h3, decode_drop s a i h1]
      rw [vld_step s (a + i) h1 (vld_no s _ h1 h)] at h
      match k, hk with
      | 0, hk => omega
      | k + 1, hk =>
        exact vld_drop s a ha k (i + (Utf8.decode s (a + i)).2) (by omega) (by rw [← Nat.add_assoc]; exact h)
    · exact vld_end _ _ (by omega)
theorem vld_take (s : ByteArray) : ∀ (n p : Nat), p ≤ s.size → vld s p = -1 → vld (s.extract 0 (offs s n p)) p = -1
  | 0, p, hp, _ => vld_end _ _ (by rw [offs, size_cut s 0 p hp]; omega)
  | n + 1, p, hp, h => by
    by_cases h1 : p < s.size
    · have h2 := decode_fits s p h1
      have h3 := offs_le s n _ h2.2.1
      have e : offs s (n + 1) p = offs s n (p + (Utf8.decode s p).2) := by rw [offs, if_pos h1]
      rw [e]
      have hz := size_cut s 0 (offs s n (p + (Utf8.decode s p).2)) h3.2
      have hd : Utf8.decode (s.extract 0 (offs s n (p + (Utf8.decode s p).2))) p = Utf8.decode s p := by
        rw [decode_part s 0 _ p h3.2 (by omega) (by rw [Nat.zero_add]; omega), Nat.zero_add]
      have hs : stray (s.extract 0 (offs s n (p + (Utf8.decode s p).2))) p = false := by
        rw [stray_part s 0 _ p h3.2 (by omega) (by rw [Nat.zero_add]; omega), Nat.zero_add]
        exact vld_no s p h1 h
      rw [vld_step _ p (by omega) hs, hd]
      rw [vld_step s p h1 (vld_no s p h1 h)] at h
      exact vld_take s n _ h2.2.1 h
    · rw [offs_end s _ p h1]
      exact vld_end _ _ (by rw [size_cut s 0 p hp]; omega)
end Tx
end Go.Proofs.YtneifdbcjicfgaaDoor

/-
  Package text: HasPrefix of the library, stray, Valid, Clip; the law package's cutText.
-/
namespace Go.Proofs.YtneifdbcjicfgaaDoor
open Go Go.RowKit
open Tx

theorem up {w w1 : World} (h : Below w.heap.size w w1) (o : Obj) : Below w.heap.size w (w1.alloc o) := h.alloc h.size o
theorem andThen {w w1 w2 : World} (h : Below w.heap.size w w1) (k : Below w1.heap.size w1 w2) : Below w.heap.size w w2 := h.trans (k.mono h.size)
theorem up0 (w : World) (o : Obj) : Below w.heap.size w (w.alloc o) := up (Below.refl _ _) o
theorem up_iter (w : World) (s : ByteArray) (p : Nat) : Below w.heap.size w (w.iter s p) := up0 w _

theorem hpl_any (s p : ByteArray) (w : World) :
    Calls Tryd.prog 67 #[.string s, .string p] w fun e w' => e = .returned (.bool (pre s p)) ∧ w' = w := by
  by_cases h : p.size ≤ s.size
  · have hp : pre s p = ((s.extract 0 p.size).toList == p.toList) := by unfold pre; rw [decide_eq_true h, Bool.true_and]
    have HP : Hid (pre s p = ((s.extract 0 p.size).toList == p.toList)) := hp
    clear hp
    go_enter Tryd.func67, Tryd.ntmps67
    go_wp2
    go_ret
    rw [HP.out]
    exact ⟨rfl, rfl⟩
  · have hp : pre s p = false := by unfold pre; rw [decide_eq_false h, Bool.false_and]
    have HP : Hid (pre s p = false) := hp
    clear hp
    go_enter Tryd.func67, Tryd.ntmps67
    go_wp2
    go_ret
    rw [HP.out]
    exact ⟨rfl, rfl⟩
theorem hp_any (s p : ByteArray) (w : World) :
    Calls Tryd.prog 53 #[.string s, .string p] w fun e w' => e = .returned (.bool (pre s p)) ∧ w' = w := by
  go_enter Tryd.func53, Tryd.ntmps53
  go_wp2_with fail
  refine (hpl_any s p _).mono ?_
  rintro e w1 ⟨rfl, rfl⟩
  go_wp2
  go_ret
  exact ⟨rfl, rfl⟩
theorem stray_any (s : ByteArray) (i : Nat) (w : World) (h : i < s.size) :
    Calls Tryd.prog 37 #[.string s, .int .i64 (i : Int), .int .i32 ((Utf8.decode s i).1 : Int)] w fun e w' => e = .returned (.bool (stray s i)) ∧ w' = w := by
  have hs := stray_pre s i
  generalize stray s i = b at *
  generalize (Utf8.decode s i).1 = r at *
  by_cases hr : r = 65533
  · subst hr
    have HS : Hid (b = !(pre (s.extract i s.size) ⟨#[239, 191, 189]⟩)) := by show _ = _; rw [hs]; simp
    clear hs
    go_enter Tryd.func37, Tryd.ntmps37
    go_wp2_with fail
    refine (hp_any _ _ _).mono ?_
    rintro e w1 ⟨rfl, rfl⟩
    go_wp2
    go_ret
    rw [HS.out]
    exact ⟨rfl, rfl⟩
  · have HS : Hid (b = false) := by show _ = _; rw [hs, decide_eq_false hr]; rfl
    clear hs
    go_enter Tryd.func37, Tryd.ntmps37
    go_wp2
    go_ret
    rw [HS.out]
    exact ⟨rfl, rfl⟩
end Go.Proofs.YtneifdbcjicfgaaDoor

/-
  Package text: Valid, Clip; the law package's cutText.
-/
namespace Go.Proofs.YtneifdbcjicfgaaDoor
open Go Go.RowKit
open Tx

set_option maxRecDepth 100000 in
theorem valid_any (s : ByteArray) (w : World) :
    Calls Tryd.prog 20 #[.string s] w fun e w' => e = .returned (.int .i64 (vld s 0)) ∧ Below w.heap.size w w' := by
  have HU : Hid (∀ p, Below w.heap.size w (w.iter s p)) := fun p => up_iter w s p
  go_enter Tryd.func20, Tryd.ntmps20
  go_wp2
  go_loopw [] (fun w' => ∃ (pos : Nat), w' = w.iter s pos ∧ vld s pos = vld s 0) (fun w' => s.size - w'.iterPos w.heap.size)
  case atStart => exact ⟨0, rfl, rfl⟩
  case round =>
    obtain ⟨pos, rfl, hv⟩ := hrel
    have HV : Hid (vld s pos = vld s 0) := hv
    clear hv
    by_cases hp : pos < s.size
    · have hnx : ∀ ty, (Instr.next (.pointer (some ⟨w.heap.size, 0, none⟩)) true ty).run Tryd.prog (w.iter s pos) = _ := fun ty => run_next_any w s pos ty hp
      have hd := decode_fits s pos hp
      go_wp2_with fail
      refine (stray_any s pos _ hp).mono ?_
      rintro e w1 ⟨rfl, rfl⟩
      cases hs : stray s pos with
      | true =>
        have HR : Hid ((pos : Int) = vld s 0) := by show _ = _; rw [← HV.out, vld_hit s pos hp hs]
        clear hs
        go_wp2
        go_ret
        rw [HR.out]
        exact ⟨rfl, HU.out _⟩
      | false =>
        have HR : Hid (vld s (pos + (Utf8.decode s pos).2) = vld s 0) := by show _ = _; rw [← HV.out, vld_step s pos hp hs]
        clear hs
        go_wp2
        go_roundw
        case rel => exact ⟨_, rfl, HR.out⟩
        case measure => simp; omega
    · have hnx : ∀ ty, (Instr.next (.pointer (some ⟨w.heap.size, 0, none⟩)) true ty).run Tryd.prog (w.iter s pos) = _ := fun ty => run_next_end w s pos ty hp
      go_wp2
      go_ret
      rw [← HV.out, vld_end s pos hp]
      exact ⟨rfl, HU.out _⟩

set_option maxRecDepth 100000 in
theorem clip_any (s : ByteArray) (n : Int) (w : World) (hn : n < 9223372036854775808) :
    Calls Tryd.prog 21 #[.string s, .int .i64 n] w fun e w' => e = .returned (.string (clip s n)) ∧ Below w.heap.size w w' := by
  have HU : Hid (∀ p, Below w.heap.size w (w.iter s p)) := fun p => up_iter w s p
  have HC : Hid (clip s n = s.extract 0 (offs s n.toNat 0)) := rfl
  generalize clip s n = c at *
  have H0 : Hid (∃ k, offs s n.toNat 0 = k) := ⟨_, rfl⟩
  obtain ⟨k, hk0⟩ := H0.out
  have HK : Hid (offs s n.toNat 0 = k) := hk0
  clear hk0 H0
  go_enter Tryd.func21, Tryd.ntmps21
  go_wp2
  go_loopw [1] (fun m w' => ∃ (pos : Nat) (x : Int), w' = w.iter s pos ∧ m = .int .i64 x ∧ x ≤ n ∧ (x < 0 → x = n) ∧ offs s x.toNat pos = k ∧ pos ≤ s.size) (fun _ w' => s.size - w'.iterPos w.heap.size)
  case atStart => exact ⟨0, n, rfl, rfl, Int.le_refl _, fun _ => rfl, HK.out, Nat.zero_le _⟩
  case round =>
    obtain ⟨pos, x, rfl, rfl, hx, hx0, ho, hle⟩ := hrel
    have HO : Hid (offs s x.toNat pos = k) := ho
    have HX : Hid (x < 0 → x = n) := hx0
    clear ho hx0
    by_cases hp : pos < s.size
    · have hnx : ∀ ty, (Instr.next (.pointer (some ⟨w.heap.size, 0, none⟩)) true ty).run Tryd.prog (w.iter s pos) = _ := fun ty => run_next_any w s pos ty hp
      have hd := decode_fits s pos hp
      by_cases h1 : x < 1
      · have HR : Hid (pos = k) := by
          show _ = _
          rw [← HO.out, show x.toNat = 0 by omega]
          rfl
        go_wp2
        go_ret
        rw [HC.out, HK.out, ← HR.out]
        exact ⟨rfl, HU.out _⟩
      · have HR : Hid (offs s (x - 1).toNat (pos + (Utf8.decode s pos).2) = k) := by
          show _ = _
          rw [← HO.out, show x.toNat = (x - 1).toNat + 1 by omega, offs, if_pos hp]
        go_wp2
        go_roundw
        case rel => exact ⟨_, x - 1, rfl, by go_num, by omega, by omega, HR.out, hd.2.1⟩
        case measure => simp; omega
    · have hnx : ∀ ty, (Instr.next (.pointer (some ⟨w.heap.size, 0, none⟩)) true ty).run Tryd.prog (w.iter s pos) = _ := fun ty => run_next_end w s pos ty hp
      have HR : Hid (k = s.size) := by
        show _ = _
        rw [← HO.out, offs_end s _ pos hp]
        omega
      go_wp2
      go_ret
      rw [HC.out, HK.out, HR.out, ByteArray.extract_zero_size]
      exact ⟨rfl, HU.out _⟩

/-- cutText -/
def cutT (s : ByteArray) : ByteArray := if s.size ≤ 131072 then s else s.extract 0 131072
theorem cutT_le (s : ByteArray) : (cutT s).size ≤ 131072 := by
  unfold cutT
  split
  · assumption
  · rw [size_cut s 0 131072 (by omega)]
    omega
theorem cut_any (s : ByteArray) (w : World) :
    Calls Tryd.prog 11 #[.string s] w fun e w' => e = .returned (.string (cutT s)) ∧ w' = w := by
  by_cases h : s.size ≤ 131072
  · have HC : Hid (cutT s = s) := by show _ = _; rw [cutT, if_pos h]
    go_enter Tryd.func11, Tryd.ntmps11
    go_wp2
    go_ret
    rw [HC.out]
    exact ⟨rfl, rfl⟩
  · have HC : Hid (cutT s = s.extract 0 131072) := by show _ = _; rw [cutT, if_neg h]
    go_enter Tryd.func11, Tryd.ntmps11
    go_wp2
    go_ret
    rw [HC.out]
    exact ⟨rfl, rfl⟩
end Go.Proofs.YtneifdbcjicfgaaDoor

/-
  Package text: the table of letters; Letter.
-/
namespace Go.Proofs.YtneifdbcjicfgaaDoor
open Go Go.RowKit
open Tx

namespace Tx
/-- letters -/
def lets : List (Int × Int) := [(65, 90), (97, 122), (192, 214), (216, 246), (248, 383), (913, 929), (931, 937), (940, 974), (1024, 1119), (1329, 1366), (1488, 1514), (1569, 1594), (1601, 1610), (2308, 2361), (3585, 3632), (4304, 4346), (12353, 12438), (12449, 12538), (19968, 40959), (44032, 55203), (66560, 66639), (131072, 173791)]
def hids : List (Int × Int) := [(128, 159), (173, 173), (8203, 8207), (8232, 8238), (8288, 8292), (65279, 65279), (65529, 65531), (917505, 917631)]
def flat (t : List (Int × Int)) : List Int := t.flatMap fun p => [p.1, p.2]
def among (t : List (Int × Int)) (r : Int) : Bool := t.any fun p => decide (p.1 ≤ r) && decide (r ≤ p.2)
theorem flat_len (t : List (Int × Int)) : (flat t).length = 2 * t.length := by
  induction t with
  | nil => rfl
  | cons p t ih => simp only [flat, List.flatMap_cons, List.length_append, List.length_cons, List.length_nil] at *; omega
theorem flat_get (t : List (Int × Int)) : ∀ (k : Nat) (h : k < t.length), (flat t)[2 * k]? = some t[k].1 ∧ (flat t)[2 * k + 1]? = some t[k].2 := by
  induction t with
  | nil => intro k h; simp at h
  | cons p t ih =>
    intro k h
    cases k with
    | zero => exact ⟨rfl, rfl⟩
    | succ k =>
      have := ih k (by simpa using h)
      simp only [flat, List.flatMap_cons] at *
      exact this
theorem among_take (t : List (Int × Int)) (r : Int) (k : Nat) (h : k < t.length) : among (t.take (k + 1)) r = (among (t.take k) r || (decide (t[k].1 ≤ r) && decide (r ≤ t[k].2))) := by
  unfold among
  rw [List.take_succ_eq_append_getElem h, List.any_append]
  simp
theorem among_yes (t : List (Int × Int)) (r : Int) (k : Nat) (h : k < t.length) (h1 : t[k].1 ≤ r) (h2 : r ≤ t[k].2) : among t r = true := by
  unfold among
  rw [List.any_eq_true]
  exact ⟨t[k], List.getElem_mem h, by simp [h1, h2]⟩
end Tx
/-- the numbers of a table of pairs in a block's cells -/
def TabP (g : Nat) (k : IntKind) (t : List (Int × Int)) (w : World) : Prop := ∀ j (h : j < (flat t).length), w.cell? ⟨g, j, none⟩ = some (.int k (flat t)[j])
theorem TabP.kept {g : Nat} {k : IntKind} {t : List (Int × Int)} {w w' : World} (h : TabP g k t w) (hb : Below w.heap.size w w') : TabP g k t w' := fun j hj =>
  (hb.cell (p := ⟨g, j, none⟩) (World.block_lt_of_cell? _ _ (h j hj))).trans (h j hj)
theorem TabP.range {g : Nat} {k : IntKind} {t : List (Int × Int)} {w : World} (h : TabP g k t w) : w.rangeAt g 0 ((flat t).map fun z => Value.int k z) := by
  intro j v hv
  rw [List.getElem?_map, Option.map_eq_some_iff] at hv
  obtain ⟨z, hz, rfl⟩ := hv
  obtain ⟨hj, rfl⟩ := List.getElem?_eq_some_iff.1 hz
  rw [Nat.zero_add]
  exact h j hj
/-- the k-th pair of a table by value -/
theorem run_index_pair {P : Program} (w : World) (ta te : TypeId) (n : Nat) (d : TypeDesc) (k : IntKind) (t : List (Int × Int)) (i : Nat) (hi : i < t.length) (hn : t.length = n) (ht : P.underlying ta = some (.array n te)) (he : P.underlying te = some d) (hd : d.isRow = true) (hs : (P.info? te).map (·.size) = some 2) :
    (Instr.index ta (.agg ((flat t).map fun z => Value.int k z).toArray) (.int .i64 (i : Int))).run P w = .ok (.agg #[.int k t[i].1, .int k t[i].2]) w := by
  have h1 : (0 : Int) ≤ (i : Int) ∧ (i : Int) < (n : Int) := by omega
  have hagg : (isAgg te).run P w = .ok true w := by
    unfold isAgg
    rw [Sem.run_bind, run_underlying he w]
    cases d <;> simp_all [TypeDesc.isRow]
  cases hq : P.info? te with
  | none => simp [hq] at hs
  | some inf =>
    have hz : inf.size = 2 := by simpa [hq] using hs
    have e : List.take 2 (List.drop (i * 2) (List.map (fun z => Value.int k z) (flat t))) = [.int k t[i].1, .int k t[i].2] := by
      have hg := flat_get t i hi
      apply List.ext_getElem?
      intro j
      match j with
      | 0 => simp [Nat.mul_comm i 2, hg.1]
      | 1 => simp [List.getElem?_drop, Nat.mul_comm i 2, hg.2]
      | j + 2 => rw [List.getElem?_eq_none (by simp; omega), List.getElem?_eq_none (by simp)]
    have h2 : i < n := by omega
    simp [Instr.index, run_underlying ht, asIntOf, h2, part, hagg, sizeOf, typeInfo, hq, hz, e, go_sem]

theorem infoSpan : (Tryd.prog.info? 87).map (·.size) = some 2 := by kernel_rfl
theorem infoLets : (Tryd.prog.info? 88).map (·.size) = some 44 := by kernel_rfl

theorem has_any (a b r : Int) (w : World) :
    Calls Tryd.prog 52 #[.agg #[.int .i32 a, .int .i32 b], .int .i32 r] w fun e w' => e = .returned (.bool (decide (a ≤ r) && decide (r ≤ b))) ∧ Below w.heap.size w w' := by
  by_cases h1 : a ≤ r
  · have H1 : Hid ((decide (a ≤ r) && decide (r ≤ b)) = decide (r ≤ b)) := by show _ = _; rw [decide_eq_true h1, Bool.true_and]
    rw [H1.out]
    go_enter Tryd.func52, Tryd.ntmps52
    go_wp2
    go_ret
    exact ⟨rfl, up0 _ _⟩
  · have H1 : Hid ((decide (a ≤ r) && decide (r ≤ b)) = false) := by show _ = _; rw [decide_eq_false h1, Bool.false_and]
    rw [H1.out]
    go_enter Tryd.func52, Tryd.ntmps52
    go_wp2
    go_ret
    exact ⟨rfl, up0 _ _⟩

set_option maxRecDepth 100000 in
theorem letter_any (r : Int) (w : World) (hT : TabP 0 .i32 lets w) :
    Calls Tryd.prog 36 #[.int .i32 r] w fun e w' => e = .returned (.bool (among lets r)) ∧ Below w.heap.size w w' := by
  have HIX : Hid (∀ w' (i : Nat) (hi : i < lets.length), (Instr.index 88 (.agg ((flat lets).map fun z => Value.int .i32 z).toArray) (.int .i64 (i : Int))).run Tryd.prog w' = .ok (.agg #[.int .i32 lets[i].1, .int .i32 lets[i].2]) w') :=
    fun w' i hi => run_index_pair w' 88 87 22 _ .i32 lets i hi rfl Tryd.underlying88 Tryd.underlying87 rfl infoSpan
  have HR := hT.range
  generalize hC : ((flat lets).map fun z => Value.int .i32 z) = C at *
  have HL : Hid (lets.length = 22) := rfl
  have HN : Hid ((Tryd.prog.info? 88).map (·.size) = some C.length) := by show _ = _; rw [← hC]; exact infoLets
  clear hC hT
  go_enter Tryd.func36, Tryd.ntmps36
  go_wp2_with (refine wpList_load_mid rfl 88 _ rfl 0 0 rfl C _ HR Tryd.underlying88 rfl HN.out ?_)
  clear HR HN
  have H0 : Hid (among (lets.take 0) r = false) := rfl
  go_loopw [6] (fun i wr => ∃ k : Nat, k ≤ 22 ∧ i = .int .i64 (k : Int) ∧ among (lets.take k) r = false ∧ Below w.heap.size w wr) (fun i _ => 22 - (intOf i).toNat)
  case atStart => exact ⟨0, by omega, rfl, H0.out, Below.refl _ _⟩
  case round =>
    obtain ⟨k, hk, rfl, ha, hbel⟩ := hrel
    have HA : Hid (among (lets.take k) r = false) := ha
    clear ha
    by_cases hlt : k < 22
    · have hkl : k < lets.length := by rw [HL.out]; exact hlt
      have hix := fun w' => HIX.out w' k hkl
      have HS : Hid (among (lets.take (k + 1)) r = (among (lets.take k) r || (decide (lets[k].1 ≤ r) && decide (r ≤ lets[k].2)))) := among_take lets r k hkl
      have HY : Hid (lets[k].1 ≤ r → r ≤ lets[k].2 → among lets r = true) := among_yes lets r k hkl
      generalize lets[k].1 = lo at *
      generalize lets[k].2 = hi at *
      clear HIX hkl
      go_wp2_with fail
      refine (has_any lo hi r _).mono ?_
      rintro e w1 ⟨rfl, b1⟩
      have hb1 := andThen (up hbel _) b1
      clear b1 hbel hix
      by_cases hh : lo ≤ r ∧ r ≤ hi
      · have HT : Hid ((decide (lo ≤ r) && decide (r ≤ hi)) = true) := by show _ = _; simp [hh]
        have HY2 : Hid (among lets r = true) := HY.out hh.1 hh.2
        rw [HT.out]
        clear HY HS
        go_wp2
        go_ret
        rw [HY2.out]
        exact ⟨rfl, hb1⟩
      · have HT : Hid ((decide (lo ≤ r) && decide (r ≤ hi)) = false) := by show _ = _; simp; omega
        have HS2 : Hid (among (lets.take (k + 1)) r = false) := by show _ = _; rw [HS.out, HA.out, HT.out]; rfl
        rw [HT.out]
        clear HY HS
        go_wp2
        go_roundw
        case rel => exact ⟨k + 1, by omega, by go_num, HS2.out, hb1⟩
        case measure => simp [intOf]; omega
    · obtain rfl : k = 22 := by omega
      have HF : Hid (among lets r = false) := HA.out
      go_wp2
      go_ret
      rw [HF.out]
      exact ⟨rfl, hbel⟩
end Go.Proofs.YtneifdbcjicfgaaDoor

/-
  Package text: control, hidden, hexByte.
-/
namespace Go.Proofs.YtneifdbcjicfgaaDoor
open Go Go.RowKit
open Tx

namespace Tx
def ctl (r : Int) : Bool := decide (r < 32) || decide (r = 127)
/-- a lower hexadecimal digit -/
def hexD (n : Nat) : UInt8 := if n < 10 then UInt8.ofNat (48 + n) else UInt8.ofNat (87 + n)
/-- a byte's escape -/
def hexB (c : Nat) : ByteArray := ⟨#[92, 120, hexD (c / 16), hexD (c % 16)]⟩
end Tx
theorem control_any (r : Int) (w : World) :
    Calls Tryd.prog 54 #[.int .i32 r] w fun e w' => e = .returned (.bool (ctl r)) ∧ w' = w := by
  by_cases h1 : r < 32
  · have H1 : Hid (ctl r = true) := by show _ = _; unfold ctl; rw [decide_eq_true h1, Bool.true_or]
    rw [H1.out]
    go_enter Tryd.func54, Tryd.ntmps54
    go_wp2
    go_ret
    exact ⟨rfl, rfl⟩
  · by_cases h2 : r = 127
    · have H1 : Hid (ctl r = true) := by show _ = _; unfold ctl; rw [decide_eq_true h2, Bool.or_true]
      rw [H1.out]
      subst h2
      go_enter Tryd.func54, Tryd.ntmps54
      go_wp2
      go_ret
      exact ⟨rfl, rfl⟩
    · have H1 : Hid (ctl r = false) := by show _ = _; unfold ctl; rw [decide_eq_false h1, decide_eq_false h2]; rfl
      rw [H1.out]
      have e1 : (r == 127) = false := by simp [h2]
      go_enter Tryd.func54, Tryd.ntmps54
      go_wp2
      go_ret
      exact ⟨rfl, rfl⟩
theorem infoHids : (Tryd.prog.info? 105).map (·.size) = some 16 := by kernel_rfl
set_option maxRecDepth 100000 in
theorem hidden_any (r : Int) (w : World) (hT : TabP 2 .i32 hids w) :
    Calls Tryd.prog 55 #[.int .i32 r] w fun e w' => e = .returned (.bool (among hids r)) ∧ Below w.heap.size w w' := by
  have HIX : Hid (∀ w' (i : Nat) (hi : i < hids.length), (Instr.index 105 (.agg ((flat hids).map fun z => Value.int .i32 z).toArray) (.int .i64 (i : Int))).run Tryd.prog w' = .ok (.agg #[.int .i32 hids[i].1, .int .i32 hids[i].2]) w') :=
    fun w' i hi => run_index_pair w' 105 87 8 _ .i32 hids i hi rfl Tryd.underlying105 Tryd.underlying87 rfl infoSpan
  have HR := hT.range
  generalize hC : ((flat hids).map fun z => Value.int .i32 z) = C at *
  have HL : Hid (hids.length = 8) := rfl
  have HN : Hid ((Tryd.prog.info? 105).map (·.size) = some C.length) := by show _ = _; rw [← hC]; exact infoHids
  clear hC hT
  go_enter Tryd.func55, Tryd.ntmps55
  go_wp2_with (refine wpList_load_mid rfl 105 _ rfl 2 0 rfl C _ HR Tryd.underlying105 rfl HN.out ?_)
  clear HR HN
  have H0 : Hid (among (hids.take 0) r = false) := rfl
  go_loopw [6] (fun i wr => ∃ k : Nat, k ≤ 8 ∧ i = .int .i64 (k : Int) ∧ among (hids.take k) r = false ∧ Below w.heap.size w wr) (fun i _ => 8 - (intOf i).toNat)
  case atStart => exact ⟨0, by omega, rfl, H0.out, Below.refl _ _⟩
  case round =>
    obtain ⟨k, hk, rfl, ha, hbel⟩ := hrel
    have HA : Hid (among (hids.take k) r = false) := ha
    clear ha
    by_cases hlt : k < 8
    · have hkl : k < hids.length := by rw [HL.out]; exact hlt
      have hix := fun w' => HIX.out w' k hkl
      have HS : Hid (among (hids.take (k + 1)) r = (among (hids.take k) r || (decide (hids[k].1 ≤ r) && decide (r ≤ hids[k].2)))) := among_take hids r k hkl
      have HY : Hid (hids[k].1 ≤ r → r ≤ hids[k].2 → among hids r = true) := among_yes hids r k hkl
      generalize hids[k].1 = lo at *
      generalize hids[k].2 = hi at *
      clear HIX hkl
      go_wp2_with fail
      refine (has_any lo hi r _).mono ?_
      rintro e w1 ⟨rfl, b1⟩
      have hb1 := andThen (up hbel _) b1
      clear b1 hbel hix
      by_cases hh : lo ≤ r ∧ r ≤ hi
      · have HT : Hid ((decide (lo ≤ r) && decide (r ≤ hi)) = true) := by show _ = _; simp [hh]
        have HY2 : Hid (among hids r = true) := HY.out hh.1 hh.2
        rw [HT.out]
        clear HY HS
        go_wp2
        go_ret
        rw [HY2.out]
        exact ⟨rfl, hb1⟩
      · have HT : Hid ((decide (lo ≤ r) && decide (r ≤ hi)) = false) := by show _ = _; simp; omega
        have HS2 : Hid (among (hids.take (k + 1)) r = false) := by show _ = _; rw [HS.out, HA.out, HT.out]; rfl
        rw [HT.out]
        clear HY HS
        go_wp2
        go_roundw
        case rel => exact ⟨k + 1, by omega, by go_num, HS2.out, hb1⟩
        case measure => simp [intOf]; omega
    · obtain rfl : k = 8 := by omega
      have HF : Hid (among hids r = false) := HA.out
      go_wp2
      go_ret
      rw [HF.out]
      exact ⟨rfl, hbel⟩
theorem hexD_idx (n : Nat) (h : n < 16) : ((⟨#[48, 49, 50, 51, 52, 53, 54, 55, 56, 57, 97, 98, 99, 100, 101, 102]⟩ : ByteArray)[n]'h) = hexD n := by
  have key : ∀ n, (h : n < 16) → ((⟨#[48, 49, 50, 51, 52, 53, 54, 55, 56, 57, 97, 98, 99, 100, 101, 102]⟩ : ByteArray)[n]'h) = hexD n := by decide +kernel
  exact key n h
/-- two bytes of a new row as a string -/
theorem two_str (w : World) (g : Nat) (x y : UInt8) (hc0 : w.cell? ⟨g, 0, none⟩ = some (.int .u8 (x.toNat : Int))) (hc1 : w.cell? ⟨g, 1, none⟩ = some (.int .u8 (y.toNat : Int))) :
    (convert 72 9 (.slice (some ⟨g, 0, none⟩) 2 2)).run Tryd.prog w = .ok (.string ⟨#[x, y]⟩) w := by
  refine run_convert_bytes_back w 72 9 5 ⟨g, 0, none⟩ 2 [x, y] Tryd.underlying72 Tryd.underlying5 Tryd.underlying9 (fun j hj => ?_)
  match j, hj with
  | 0, _ => rw [Addr.add_lit]; exact hc0
  | 1, _ => rw [Addr.add_lit]; exact hc1
theorem two_app (x y : UInt8) : (⟨#[92, 120]⟩ : ByteArray) ++ ⟨#[x, y]⟩ = ⟨#[92, 120, x, y]⟩ := by
  apply ByteArray.ext
  simp
theorem hexb_any (c : Nat) (w : World) (hc : c < 256) :
    Calls Tryd.prog 38 #[.int .u8 (c : Int)] w fun e w' => e = .returned (.string (hexB c)) ∧ Below w.heap.size w w' := by
  obtain ⟨a, ha⟩ : ∃ a, c / 16 = a := ⟨_, rfl⟩
  obtain ⟨b, hb⟩ : ∃ b, c % 16 = b := ⟨_, rfl⟩
  have HB : Hid (hexB c = ⟨#[92, 120, hexD a, hexD b]⟩) := by show _ = _; unfold hexB; rw [ha, hb]
  have q1 : (c : Int) / 16 = (a : Int) := by omega
  have q2 : (c : Int) % 16 = (b : Int) := by omega
  have e1 : bits .and .u8 (c : Int) 15 = (b : Int) := by
    have h0 := u8_and_nat c 15 hc (by decide)
    have e : c &&& 15 = c % 16 := Nat.and_two_pow_sub_one_eq_mod c 4
    rw [e, hb] at h0
    exact h0
  have hc1 : a < 16 := by omega
  have hc2 : b < 16 := by omega
  have hi1 : (a : Int) < 16 := by omega
  have hi2 : (b : Int) < 16 := by omega
  have hx1 := hexD_idx a hc1
  have hx2 := hexD_idx b hc2
  have hcw := two_str (w.alloc (.cells #[.int .u8 ((hexD a).toNat : Int), .int .u8 ((hexD b).toNat : Int)] 5)).drew w.heap.size (hexD a) (hexD b) (World.cell?_alloc_new w _ _ 0) (World.cell?_alloc_new w _ _ 1)
  clear ha hb
  go_enter Tryd.func38, Tryd.ntmps38
  go_wp2
  go_region
  all_goals
    go_wp2
    go_ret
    refine ⟨?_, (up0 w _).drew⟩
    rw [HB.out]
    exact congrArg (fun x => Ending.returned (.string x)) (two_app _ _)
end Go.Proofs.YtneifdbcjicfgaaDoor

/-
  strconv.FormatInt at the base 16, of a number that is not negative.
-/
namespace Go.Proofs.YtneifdbcjicfgaaDoor
open Go Go.RowKit
open Tx

namespace Tx
def hexL (u : Nat) : List UInt8 := if _h : u < 16 then [hexD u] else hexL (u / 16) ++ [hexD (u % 16)]
termination_by u
decreasing_by omega
theorem hexL_lo (u : Nat) (h : u < 16) : hexL u = [hexD u] := by rw [hexL, dif_pos h]
theorem hexL_hi (u : Nat) (h : ¬ u < 16) : hexL u = hexL (u / 16) ++ [hexD (u % 16)] := by rw [hexL, dif_neg h]
end Tx
theorem dig36 (n : Nat) (h : n < 16) (h2 : n < (⟨#[48, 49, 50, 51, 52, 53, 54, 55, 56, 57, 97, 98, 99, 100, 101, 102, 103, 104, 105, 106, 107, 108, 109, 110, 111, 112, 113, 114, 115, 116, 117, 118, 119, 120, 121, 122]⟩ : ByteArray).size) : ((⟨#[48, 49, 50, 51, 52, 53, 54, 55, 56, 57, 97, 98, 99, 100, 101, 102, 103, 104, 105, 106, 107, 108, 109, 110, 111, 112, 113, 114, 115, 116, 117, 118, 119, 120, 121, 122]⟩ : ByteArray)[n]'h2) = hexD n := by
  have key : ∀ n, n < 16 → ∀ h2 : n < 36, ((⟨#[48, 49, 50, 51, 52, 53, 54, 55, 56, 57, 97, 98, 99, 100, 101, 102, 103, 104, 105, 106, 107, 108, 109, 110, 111, 112, 113, 114, 115, 116, 117, 118, 119, 120, 121, 122]⟩ : ByteArray)[n]'h2) = hexD n := by decide +kernel
  exact key n h h2
theorem isPow16 (w : World) : Calls Tryd.prog 97 #[.int .i64 16] w fun e w' => e = .returned (.bool true) ∧ w' = w := by
  have e1 : bits .and .i64 16 15 = 0 := by decide
  go_enter Tryd.func97, Tryd.ntmps97
  go_wp2
  go_ret
  exact ⟨rfl, rfl⟩
theorem tz64 (w : World) (h : w.cell? ⟨9, 15, none⟩ = some (.int .u8 4)) : Calls Tryd.prog 104 #[.int .u64 16] w fun e w' => e = .returned (.int .i64 4) ∧ w' = w := by
  have e0 : IntKind.u64.wrap (-16) = 18446744073709551600 := by decide
  have e1 : bits .and .u64 16 18446744073709551600 = 16 := by decide
  go_enter Tryd.func104, Tryd.ntmps104
  go_wp2
  go_ret
  exact ⟨rfl, rfl⟩
theorem tz (w : World) (h : w.cell? ⟨9, 15, none⟩ = some (.int .u8 4)) : Calls Tryd.prog 98 #[.int .u64 16] w fun e w' => e = .returned (.int .i64 4) ∧ w' = w := by
  have H : Hid (Calls Tryd.prog 104 #[.int .u64 16] w fun e w' => e = .returned (.int .i64 4) ∧ w' = w) := tz64 w h
  clear h
  go_enter Tryd.func98, Tryd.ntmps98
  go_wp2_with fail
  refine H.out.mono ?_
  rintro e w1 ⟨rfl, rfl⟩
  go_wp2
  go_ret
  exact ⟨rfl, rfl⟩

/-- the digits so far, from place i of the row on -/
structure Digs (w : World) (g i : Nat) (D : List UInt8) : Prop where
  row : ∃ cur : Array Value, w.heap[g]? = some (.cells cur 130 (0, 0)) ∧ cur.size = 65 ∧ ∀ j (h : j < D.length), cur[i + j]? = some (.int .u8 (D[j].toNat : Int))
theorem Digs.cell {w : World} {g i : Nat} {D : List UInt8} (h : Digs w g i D) (k : Nat) (hk : k < 65) : ∃ v, w.cell? ⟨g, k, none⟩ = some v := by
  obtain ⟨cur, h1, h2, _⟩ := h.row
  exact ⟨cur[k], by unfold World.cell?; rw [h1]; simp [h2, hk]⟩
theorem Digs.frozen {w : World} {g i : Nat} {D : List UInt8} (h : Digs w g i D) (k : Nat) : w.frozen? ⟨g, k, none⟩ = false := by
  obtain ⟨cur, h1, _⟩ := h.row
  unfold World.frozen?
  rw [h1]
  simp
theorem Digs.push {w : World} {g i : Nat} {D : List UInt8} (h : Digs w g (i + 1) D) (hi : i < 65) (x : UInt8) : Digs (w.setCell ⟨g, i, none⟩ (.int .u8 (x.toNat : Int))) g i (x :: D) := by
  obtain ⟨cur, h1, h2, h3⟩ := h.row
  refine ⟨_, Go.heap_setCell_same w g i _ _ _ h1, by simp [h2], fun j hj => ?_⟩
  cases j with
  | zero =>
    rw [Nat.add_zero, Array.getElem?_setIfInBounds_self_of_lt (by omega)]
    rfl
  | succ j =>
    rw [Array.getElem?_setIfInBounds_ne (by omega), show i + (j + 1) = i + 1 + j by omega]
    exact h3 j (by simpa using hj)
theorem Digs.str {w : World} {g i : Nat} {D : List UInt8} (h : Digs w g i D) (hl : i + D.length = 65) : (convert 72 9 (.slice (some ⟨g, i, none⟩) (65 - i) (65 - i))).run Tryd.prog w = .ok (.string ⟨D.toArray⟩) w := by
  have e : 65 - i = D.length := by omega
  obtain ⟨cur, h1, h2, h3⟩ := h.row
  rw [e]
  refine run_convert_bytes_back w 72 9 5 ⟨g, i, none⟩ D.length D Tryd.underlying72 Tryd.underlying5 Tryd.underlying9 (fun j hj => ?_)
  rw [Addr.add_lit]
  unfold World.cell?
  rw [h1]
  exact h3 j hj

set_option maxRecDepth 100000 in
set_option maxHeartbeats 2000000 in
theorem fbits_any (r : Nat) (w : World) (hr : r < 2147483648) (h : w.cell? ⟨9, 15, none⟩ = some (.int .u8 4)) :
    Calls Tryd.prog 82 #[.slice none 0 0, .int .u64 (r : Int), .int .i64 16, .bool false, .bool false] w fun e w' => e = .returned (.tuple #[.slice none 0 0, .string ⟨(hexL r).toArray⟩]) ∧ Below w.heap.size w w' := by
  have HC : Hid (∀ w', Below w.heap.size w w' → w'.cell? ⟨9, 15, none⟩ = some (.int .u8 4)) := fun w' hb => (hb.cell (p := ⟨9, 15, none⟩) (World.block_lt_of_cell? _ _ h)).trans h
  clear h
  obtain ⟨H, hH⟩ : ∃ H, hexL r = H := ⟨_, rfl⟩
  have HH : Hid (hexL r = H) := hH
  rw [hH]
  clear hH
  have hz65 : Tryd.zeroCells130.size = 65 := by kernel_rfl
  have HD0 : Hid (Digs (w.alloc (.cells Tryd.zeroCells130 130)) w.heap.size 65 []) := ⟨Tryd.zeroCells130, by show (w.heap.push _)[w.heap.size]? = _; simp, hz65, fun j h => absurd h (by simp)⟩
  have HB0 : Hid (Below w.heap.size w (w.alloc (.cells Tryd.zeroCells130 130))) := up0 w _
  clear hz65
  go_enter Tryd.func82, Tryd.ntmps82
  go_wp2_with fail
  generalize (w.alloc (.cells Tryd.zeroCells130 130)) = wa at *
  refine (isPow16 _).mono ?_
  rintro e w1 ⟨rfl, rfl⟩
  go_wp2_with fail
  refine (tz _ (HC.out _ HB0.out)).mono ?_
  rintro e w1 ⟨rfl, rfl⟩
  go_wp2
  go_loopw [1, 13] (fun x y wr => ∃ (U i : Nat) (D : List UInt8), x = .int .u64 (U : Int) ∧ y = .int .i64 (i : Int) ∧ hexL U ++ D = H ∧ i + D.length = 65 ∧ U * 16 ^ D.length ≤ r ∧ (D.length = 0 ∨ 0 < U) ∧ Digs wr w.heap.size i D ∧ Below w.heap.size w wr) (fun x _ _ => (intOf x).toNat)
  case atStart => exact ⟨r, 65, [], rfl, rfl, by rw [List.append_nil]; exact HH.out, rfl, by simp, .inl rfl, HD0.out, HB0.out⟩
  case round =>
    obtain ⟨U, i, D, rfl, rfl, hU, hi, hle, hpos, hdig, hbel⟩ := hrel
    have HU : Hid (hexL U ++ D = H) := hU
    have hUr : U ≤ r := Nat.le_trans (Nat.le_mul_of_pos_right _ (Nat.pow_pos (by decide))) hle
    have hD8 : D.length ≤ 8 := by
      rcases hpos with h0 | h0
      · omega
      · have h1 : 16 ^ D.length ≤ r := Nat.le_trans (Nat.le_mul_of_pos_left _ h0) hle
        apply Nat.le_of_not_lt
        intro h9
        have h2 : 16 ^ 8 ≤ 16 ^ D.length := Nat.pow_le_pow_right (by decide) (by omega)
        have h3 : (16 : Nat) ^ 8 = 4294967296 := by decide
        omega
    clear hU HH HD0 HB0
    obtain ⟨j, rfl⟩ : ∃ j, i = j + 1 := ⟨i - 1, by omega⟩
    obtain ⟨v0, c0⟩ := hdig.cell j (by omega)
    have f0 := hdig.frozen j
    have hji : (j : Int) ≤ 65 := by omega
    have hj65 : ¬ 65 = j := by omega
    have hj66 : (j : Int) < 65 := by omega
    by_cases hlt : U < 16
    · have hx := dig36 U hlt
      have hi1 : (U : Int) < 36 := by omega
      have HR : Hid (Digs (wr.setCell ⟨w.heap.size, j, none⟩ (.int .u8 ((hexD U).toNat : Int))) w.heap.size j (hexD U :: D)) := hdig.push (by omega) (hexD U)
      have hcv := HR.out.str (by simp; omega)
      have HE : Hid (hexD U :: D = H) := by show _ = _; rw [← HU.out, hexL_lo U hlt]; rfl
      have HBW : Hid (Below w.heap.size w (wr.setCell ⟨w.heap.size, j, none⟩ (.int .u8 ((hexD U).toNat : Int)))) := hbel.setCell (Nat.le_refl _) _
      rw [HE.out] at hcv
      clear hdig hbel HU HR hle hpos
      go_wp2
      go_ret2
      exact ⟨rfl, HBW.out⟩
    · obtain ⟨b, hb⟩ : ∃ b, U % 16 = b := ⟨_, rfl⟩
      obtain ⟨q, hq⟩ : ∃ q, U / 16 = q := ⟨_, rfl⟩
      have hb16 : b < 16 := by omega
      have hx := dig36 b hb16
      have hi1 : (b : Int) < 36 := by omega
      have e1 : bits .and .u64 (U : Int) 15 = (b : Int) := by
        have h0 := u64_and_nat U 15 (by omega) (by decide)
        have e : U &&& 15 = U % 16 := Nat.and_two_pow_sub_one_eq_mod U 4
        rw [e, hb] at h0
        exact h0
      have e2 : (U : Int) % 16 = (b : Int) := by omega
      have e3 : (U : Int) / 16 = (q : Int) := by omega
      have HR : Hid (Digs (wr.setCell ⟨w.heap.size, j, none⟩ (.int .u8 ((hexD b).toNat : Int))) w.heap.size j (hexD b :: D)) := hdig.push (by omega) (hexD b)
      have HE : Hid (hexL q ++ (hexD b :: D) = H) := by
        show _ = _
        rw [← HU.out, hexL_hi U hlt, hb, hq, List.append_assoc]
        rfl
      have HBW : Hid (Below w.heap.size w (wr.setCell ⟨w.heap.size, j, none⟩ (.int .u8 ((hexD b).toNat : Int)))) := hbel.setCell (Nat.le_refl _) _
      have HL2 : Hid (q * 16 ^ (hexD b :: D).length ≤ r) := by
        show q * 16 ^ (D.length + 1) ≤ r
        rw [Nat.pow_succ, Nat.mul_comm (16 ^ D.length) 16, ← Nat.mul_assoc]
        exact Nat.le_trans (Nat.mul_le_mul_right _ (by omega)) hle
      have hq0 : 0 < q := by omega
      have hql : q < U := by omega
      clear hdig hbel HU hle hpos hb hq
      go_wp2
      go_roundw
      case rel => exact ⟨q, j, hexD b :: D, by go_num, by go_num, HE.out, by simp; omega, HL2.out, .inr hq0, HR.out, HBW.out⟩
      case measure => simp [intOf]; omega
theorem fmt16_any (r : Nat) (w : World) (hr : r < 2147483648) (h : w.cell? ⟨9, 15, none⟩ = some (.int .u8 4)) :
    Calls Tryd.prog 56 #[.int .i64 (r : Int), .int .i64 16] w fun e w' => e = .returned (.string ⟨(hexL r).toArray⟩) ∧ Below w.heap.size w w' := by
  have h2 : Calls Tryd.prog 68 #[.int .i64 (r : Int), .int .i64 16] w fun e w' => e = .returned (.string ⟨(hexL r).toArray⟩) ∧ Below w.heap.size w w' := by
    have H : Hid (Calls Tryd.prog 82 #[.slice none 0 0, .int .u64 (r : Int), .int .i64 16, .bool false, .bool false] w fun e w' => e = .returned (.tuple #[.slice none 0 0, .string ⟨(hexL r).toArray⟩]) ∧ Below w.heap.size w w') := fbits_any r w hr h
    have d1 : decide ((r : Int) < 0) = false := by simp
    generalize (hexL r).toArray = R at *
    go_enter Tryd.func68, Tryd.ntmps68
    go_wp2_with fail
    refine H.out.mono ?_
    rintro e w1 ⟨rfl, b1⟩
    go_wp2
    go_ret
    exact ⟨rfl, b1⟩
  have H2 : Hid (Calls Tryd.prog 68 #[.int .i64 (r : Int), .int .i64 16] w fun e w' => e = .returned (.string ⟨(hexL r).toArray⟩) ∧ Below w.heap.size w w') := h2
  clear h2
  generalize (hexL r).toArray = R at *
  go_enter Tryd.func56, Tryd.ntmps56
  go_wp2_with fail
  refine H2.out.mono ?_
  rintro e w1 ⟨rfl, b1⟩
  go_wp2
  go_ret
  exact ⟨rfl, b1⟩
end Go.Proofs.YtneifdbcjicfgaaDoor

/-
  Package text: how a rune stands in a literal.
-/
namespace Go.Proofs.YtneifdbcjicfgaaDoor
open Go Go.RowKit
open Tx

namespace Tx
/-- how a rune stands in a literal -/
def wrt (r : Nat) : ByteArray :=
  if r = 34 ∨ r = 92 then ⟨#[92]⟩ ++ Utf8.encode (r : Int)
  else if r = 10 then ⟨#[92, 110]⟩
  else if r = 9 then ⟨#[92, 116]⟩
  else if r = 13 then ⟨#[92, 114]⟩
  else if ctl (r : Int) then hexB r
  else if among hids (r : Int) then ⟨#[92, 117, 123]⟩ ++ ⟨(hexL r).toArray⟩ ++ ⟨#[125]⟩
  else Utf8.encode (r : Int)
end Tx

theorem hexL_len : ∀ (k u : Nat), u < 16 ^ (k + 1) → (hexL u).length ≤ k + 1
  | 0, u, h => by rw [hexL_lo u (by simpa using h)]; simp
  | k + 1, u, h => by
    by_cases hu : u < 16
    · rw [hexL_lo u hu]; simp
    · rw [hexL_hi u hu, List.length_append]
      have h1 : u / 16 < 16 ^ (k + 1) := by
        rw [Nat.div_lt_iff_lt_mul (by decide), ← Nat.pow_succ]
        exact h
      have := hexL_len k (u / 16) h1
      simp
      omega
set_option maxRecDepth 100000 in
set_option maxHeartbeats 2000000 in
theorem written_any (r : Nat) (w : World) (hr : r < 2147483648) (hT : TabP 2 .i32 hids w) (hD : w.cell? ⟨9, 15, none⟩ = some (.int .u8 4)) :
    Calls Tryd.prog 39 #[.int .i32 (r : Int)] w fun e w' => e = .returned (.string (wrt r)) ∧ Below w.heap.size w w' := by
  have HT : Hid (TabP 2 .i32 hids w) := hT
  have HD : Hid (∀ w', Below w.heap.size w w' → w'.cell? ⟨9, 15, none⟩ = some (.int .u8 4)) := fun w' hb => (hb.cell (p := ⟨9, 15, none⟩) (World.block_lt_of_cell? _ _ hD)).trans hD
  clear hT hD
  have HW : Hid (wrt r = _) := rfl
  by_cases h1 : r = 34
  · subst h1
    have HE : Hid (wrt 34 = ⟨#[92]⟩ ++ Utf8.encode 34) := rfl
    clear HW
    generalize wrt 34 = W at *
    go_enter Tryd.func39, Tryd.ntmps39
    go_wp2
    go_ret
    rw [HE.out]
    exact ⟨rfl, Below.refl _ _⟩
  by_cases h2 : r = 92
  · subst h2
    have HE : Hid (wrt 92 = ⟨#[92]⟩ ++ Utf8.encode 92) := rfl
    clear HW
    generalize wrt 92 = W at *
    go_enter Tryd.func39, Tryd.ntmps39
    go_wp2
    go_ret
    rw [HE.out]
    exact ⟨rfl, Below.refl _ _⟩
  have n1 : ¬ (r = 34 ∨ r = 92) := by omega
  by_cases h3 : r = 10
  · subst h3
    have HE : Hid (wrt 10 = ⟨#[92, 110]⟩) := rfl
    clear HW
    generalize wrt 10 = W at *
    go_enter Tryd.func39, Tryd.ntmps39
    go_wp2
    go_ret
    rw [HE.out]
    exact ⟨rfl, Below.refl _ _⟩
  by_cases h4 : r = 9
  · subst h4
    have HE : Hid (wrt 9 = ⟨#[92, 116]⟩) := rfl
    clear HW
    generalize wrt 9 = W at *
    go_enter Tryd.func39, Tryd.ntmps39
    go_wp2
    go_ret
    rw [HE.out]
    exact ⟨rfl, Below.refl _ _⟩
  by_cases h5 : r = 13
  · subst h5
    have HE : Hid (wrt 13 = ⟨#[92, 114]⟩) := rfl
    clear HW
    generalize wrt 13 = W at *
    go_enter Tryd.func39, Tryd.ntmps39
    go_wp2
    go_ret
    rw [HE.out]
    exact ⟨rfl, Below.refl _ _⟩
  have e1 : ((r : Int) == 34) = false := by simp; omega
  have e2 : ((r : Int) == 92) = false := by simp; omega
  have e3 : ((r : Int) == 10) = false := by simp; omega
  have e4 : ((r : Int) == 9) = false := by simp; omega
  have e5 : ((r : Int) == 13) = false := by simp; omega
  clear HW
  cases hc : ctl (r : Int) with
  | true =>
    have HE : Hid (wrt r = hexB r) := by show _ = _; unfold wrt; rw [if_neg n1, if_neg h3, if_neg h4, if_neg h5, if_pos hc]
    have HC : Hid (ctl (r : Int) = true) := hc
    have hr8 : r < 256 := by
      unfold ctl at hc
      simp at hc
      omega
    generalize wrt r = W at *
    clear hc h1 h2 h3 h4 h5 n1
    go_enter Tryd.func39, Tryd.ntmps39
    go_wp2_with fail
    refine (control_any _ _).mono ?_
    rw [HC.out]
    rintro e w1 ⟨rfl, rfl⟩
    go_wp2_with fail
    refine (hexb_any r _ hr8).mono ?_
    rintro e w1 ⟨rfl, b1⟩
    go_wp2
    go_ret
    rw [HE.out]
    exact ⟨rfl, b1⟩
  | false =>
    have HC : Hid (ctl (r : Int) = false) := hc
    cases hh : among hids (r : Int) with
    | true =>
      have HE : Hid (wrt r = ⟨#[92, 117, 123]⟩ ++ ⟨(hexL r).toArray⟩ ++ ⟨#[125]⟩) := by show _ = _; unfold wrt; rw [if_neg n1, if_neg h3, if_neg h4, if_neg h5, if_neg (by simp [hc]), if_pos hh]
      have HH : Hid (among hids (r : Int) = true) := hh
      generalize wrt r = W at *
      clear hc hh h1 h2 h3 h4 h5 n1
      go_enter Tryd.func39, Tryd.ntmps39
      go_wp2_with fail
      refine (control_any _ _).mono ?_
      rw [HC.out]
      rintro e w1 ⟨rfl, rfl⟩
      go_wp2_with fail
      refine (hidden_any _ _ HT.out).mono ?_
      rw [HH.out]
      rintro e w1 ⟨rfl, b1⟩
      go_wp2_with fail
      refine (fmt16_any r _ hr (HD.out _ b1)).mono ?_
      rintro e w2 ⟨rfl, b2⟩
      have B2 := andThen b1 b2
      clear b1 b2
      have hX : (hexL r).toArray.size ≤ 8 := by
        have := hexL_len 7 r (by omega)
        simpa using this
      generalize (hexL r).toArray = X at *
      have hX2 : (⟨X⟩ : ByteArray).size ≤ 8 := hX
      go_wp2
      go_ret
      rw [HE.out]
      exact ⟨rfl, B2⟩
    | false =>
      have HE : Hid (wrt r = Utf8.encode (r : Int)) := by show _ = _; unfold wrt; rw [if_neg n1, if_neg h3, if_neg h4, if_neg h5, if_neg (by simp [hc]), if_neg (by simp [hh])]
      have HH : Hid (among hids (r : Int) = false) := hh
      generalize wrt r = W at *
      clear hc hh h1 h2 h3 h4 h5 n1
      go_enter Tryd.func39, Tryd.ntmps39
      go_wp2_with fail
      refine (control_any _ _).mono ?_
      rw [HC.out]
      rintro e w1 ⟨rfl, rfl⟩
      go_wp2_with fail
      refine (hidden_any _ _ HT.out).mono ?_
      rw [HH.out]
      rintro e w1 ⟨rfl, b1⟩
      go_wp2
      go_ret
      rw [HE.out]
      exact ⟨rfl, b1⟩
end Go.Proofs.YtneifdbcjicfgaaDoor

/-
  An iterator over a string in any block.
-/
namespace Go.Proofs.YtneifdbcjicfgaaDoor
open Go Go.RowKit
open Tx

/-- the iterator in block k stands at p -/
def setIter (w : World) (k : Nat) (s : ByteArray) (p : Nat) : World := { w with heap := w.heap.setIfInBounds k (.stringIter s p) }
theorem iter_at (w : World) (k : Nat) (s : ByteArray) (p : Nat) (o : Obj) (h : w.heap[k]? = some o) : (setIter w k s p).heap[k]? = some (.stringIter s p) := by
  obtain ⟨h1, _⟩ := Array.getElem?_eq_some_iff.1 h
  show (w.heap.setIfInBounds k _)[k]? = _
  rw [Array.getElem?_setIfInBounds_self_of_lt h1]
theorem run_next_at {P : Program} (w : World) (k : Nat) (s : ByteArray) (pos : Nat) (ty : TypeId) (hk : w.heap[k]? = some (.stringIter s pos)) (h : pos < s.size) :
    (Instr.next (.pointer (some ⟨k, 0, none⟩)) true ty).run P w = .ok (.tuple #[.bool true, .int .i64 pos, .int .i32 (Utf8.decode s pos).1]) (setIter w k s (pos + (Utf8.decode s pos).2)) := by
  simp only [Instr.next, getObj, setObj, Sem.run_bind, Sem.run, hk, Result.andThen, h, if_true]
  simp [goInt, setIter]
theorem run_next_over {P : Program} (w : World) (k : Nat) (s : ByteArray) (pos : Nat) (ty : TypeId) (hk : w.heap[k]? = some (.stringIter s pos)) (h : ¬ pos < s.size) :
    (Instr.next (.pointer (some ⟨k, 0, none⟩)) true ty).run P w = .ok (.tuple #[.bool false]) w := by
  simp [Instr.next, getObj, Sem.run, hk, h]
theorem below_iter {w wr : World} (h : Below w.heap.size w wr) (k : Nat) (hk : w.heap.size ≤ k) (s : ByteArray) (p : Nat) : Below w.heap.size w (setIter wr k s p) := by
  refine ⟨h.os, h.tape, h.output, ?_, fun j hj => ?_⟩
  · show w.heap.size ≤ (wr.heap.setIfInBounds k _).size
    rw [Array.size_setIfInBounds]
    exact h.size
  · show (wr.heap.setIfInBounds k _)[j]? = _
    rw [Array.getElem?_setIfInBounds_ne (by omega)]
    exact h.block j hj
theorem iter_pos {w : World} {k : Nat} {s : ByteArray} {p : Nat} (h : w.heap[k]? = some (.stringIter s p)) : w.iterPos k = p := by
  unfold World.iterPos
  rw [h]
theorem info_parts3 {P : Program} {t : TypeId} {z : Value} {a b : Nat} (h : (P.info? t).map (fun i => (i.zero, i.size, i.bytes)) = some (some z, a, b)) : ∃ i, P.info? t = some i ∧ i.zero = some z ∧ i.size = a ∧ i.bytes = b := by
  cases hq : P.info? t with
  | none => rw [hq] at h; simp at h
  | some i =>
    rw [hq] at h
    simp at h
    exact ⟨i, rfl, h.1, h.2.1, h.2.2⟩
end Go.Proofs.YtneifdbcjicfgaaDoor

/-
  Package text: Quote.
-/
namespace Go.Proofs.YtneifdbcjicfgaaDoor
open Go Go.RowKit Go.Lib
open Tx

namespace Tx
/-- how the piece at p stands in a literal -/
def pcW (s : ByteArray) (p : Nat) : ByteArray := if stray s p then hexB (at' s p) else wrt (Utf8.decode s p).1
/-- how all from p on stands in a literal -/
def qs (s : ByteArray) (p : Nat) : List UInt8 := if _h : p < s.size then (pcW s p).data.toList ++ qs s (p + (Utf8.decode s p).2) else []
termination_by s.size - p
decreasing_by
  have := decode_fits s p (by assumption)
  omega
theorem qs_in (s : ByteArray) (p : Nat) (h : p < s.size) : qs s p = (pcW s p).data.toList ++ qs s (p + (Utf8.decode s p).2) := by rw [qs, dif_pos h]
theorem qs_out (s : ByteArray) (p : Nat) (h : ¬ p < s.size) : qs s p = [] := by rw [qs, dif_neg h]
/-- the literal -/
def quo (s : ByteArray) : ByteArray := ⟨(34 :: (qs s 0 ++ [34])).toArray⟩
def bc (l : List UInt8) : List Value := l.map fun b => Value.int .u8 (b.toNat : Int)
theorem bc_len (l : List UInt8) : (bc l).length = l.length := by simp [bc]
theorem encode_le (r : Int) : (Utf8.encode r).size ≤ 4 := by
  have key : ∀ c : Nat, (if c < 0x80 then (⟨#[UInt8.ofNat c]⟩ : ByteArray) else if c < 0x800 then ⟨#[UInt8.ofNat (0xC0 + c / 64), UInt8.ofNat (0x80 + c % 64)]⟩ else if c < 0x10000 then ⟨#[UInt8.ofNat (0xE0 + c / 4096), UInt8.ofNat (0x80 + c / 64 % 64), UInt8.ofNat (0x80 + c % 64)]⟩ else ⟨#[UInt8.ofNat (0xF0 + c / 262144), UInt8.ofNat (0x80 + c / 4096 % 64), UInt8.ofNat (0x80 + c / 64 % 64), UInt8.ofNat (0x80 + c % 64)]⟩).size ≤ 4 := by
    intro c
    split
    · show (1 : Nat) ≤ 4; omega
    · split
      · show (2 : Nat) ≤ 4; omega
      · split
        · show (3 : Nat) ≤ 4; omega
        · show (4 : Nat) ≤ 4; omega
  exact key _
theorem wrt_le (r : Nat) (hr : r < 2147483648) : (wrt r).size ≤ 12 := by
  have he := encode_le (r : Int)
  have hx : (hexL r).length ≤ 8 := hexL_len 7 r (by omega)
  unfold wrt
  repeat' split
  · rw [ByteArray.size_append]
    have : (⟨#[92]⟩ : ByteArray).size = 1 := rfl
    omega
  · show (2 : Nat) ≤ 12; omega
  · show (2 : Nat) ≤ 12; omega
  · show (2 : Nat) ≤ 12; omega
  · show (4 : Nat) ≤ 12; omega
  · rw [ByteArray.size_append, ByteArray.size_append]
    have h1 : (⟨#[92, 117, 123]⟩ : ByteArray).size = 3 := rfl
    have h2 : (⟨#[125]⟩ : ByteArray).size = 1 := rfl
    have h3 : (⟨(hexL r).toArray⟩ : ByteArray).size = (hexL r).length := by
      show (hexL r).toArray.size = _
      simp
    omega
  · omega
theorem pcW_le (s : ByteArray) (p : Nat) : (pcW s p).size ≤ 12 := by
  unfold pcW
  split
  · show (4 : Nat) ≤ 12; omega
  · exact wrt_le _ (by have := decode_le s p; omega)
end Tx
theorem info5q : ∃ i, Tryd.prog.info? 5 = some i ∧ i.zero = some (.int .u8 0) ∧ i.size = 1 ∧ i.bytes = 1 := by
  have h : (Tryd.prog.info? 5).map (fun i => (i.zero, i.size, i.bytes)) = some (some (.int .u8 0), 1, 1) := by kernel_rfl
  exact info_parts3 h

/-- bytes in a row of the call's own -/
def Ro (B : Nat) (w : World) (v : Value) (l : List UInt8) : Prop := w.ownsRow B 5 1 v l.length (bc l)
theorem Ro.kept {B : Nat} {w w' : World} {v : Value} {l : List UInt8} (h : Ro B w v l) (hb : Below w.heap.size w w') : Ro B w' v l := by
  refine ⟨h.1, ?_⟩
  rcases h.2 with h1 | ⟨g, cap, cur, rfl, h1, hg, rest⟩
  · exact .inl h1
  · exact .inr ⟨g, cap, cur, rfl, h1, (hb.block g (Array.getElem?_eq_some_iff.1 hg).1).trans hg, rest⟩
theorem Ro.iter {B : Nat} {w : World} {v : Value} {l : List UInt8} {k : Nat} {s t : ByteArray} {p q : Nat} (h : Ro B w v l) (hk : w.heap[k]? = some (.stringIter t q)) : Ro B (setIter w k s p) v l := by
  refine ⟨h.1, ?_⟩
  rcases h.2 with h1 | ⟨g, cap, cur, rfl, h1, hg, rest⟩
  · exact .inl h1
  · refine .inr ⟨g, cap, cur, rfl, h1, ?_, rest⟩
    have hne : k ≠ g := by
      intro e
      rw [e, hg] at hk
      cases hk
    show (w.heap.setIfInBounds k _)[g]? = _
    rw [Array.getElem?_setIfInBounds_ne hne]
    exact hg
/-- the iterator stays while the row is written -/
theorem iter_grown {B : Nat} {w w' : World} {v : Value} {l : List UInt8} {k : Nat} {t : ByteArray} {q : Nat} (h : Ro B w v l) (hk : w.heap[k]? = some (.stringIter t q)) (hg : w.grownBy w' v.ownBlock) : w'.heap[k]? = some (.stringIter t q) := by
  rw [hg.block k (Array.getElem?_eq_some_iff.1 hk).1 ?_]
  · exact hk
  · intro e
    rcases h.2 with ⟨rfl, _⟩ | ⟨g, cap, cur, rfl, _, hgg, _⟩
    · simp [Value.ownBlock] at e
    · simp [Value.ownBlock] at e
      subst e
      rw [hgg] at hk
      cases hk
theorem Ro.below {w0 w w' : World} {v : Value} {l : List UInt8} (h : Ro w0.heap.size w v l) (hb : Below w0.heap.size w0 w) (hg : w.grownBy w' v.ownBlock) : Below w0.heap.size w0 w' :=
  hb.grown hg hb.size (fun k hk => (World.ownsRow.lt h k hk).1)
/-- append(v, str...) -/
theorem wpList_app_str {P : Program} (w : World) {ops : Array Oper} {rest : List Oper} {o : Oper} {a : Act} {Q : Exit → Act → World → Prop} (hgd : o.guard = none) (sl x : Operand) (t u : TypeId)
    (ho : o.op = .call { callee := .builtin .append, args := #[sl, x], argTypes := #[t, u] })
    (B : Nat) (hinfo : ∃ i, P.info? 5 = some i ∧ i.zero = some (.int .u8 0) ∧ i.size = 1 ∧ i.bytes = 1) (ht : P.underlying t = some (.slice 5)) (hu : P.underlying u = some .string)
    (v : Value) (l : List UInt8) (hv : a.eval sl = v) (h : Ro B w v l) (s : ByteArray) (hx : a.eval x = .string s) (hl : l.length ≤ 100000000) (hs : s.size ≤ 12) (hB : B ≤ w.heap.size)
    (hK : ∀ v' w', Ro B w' v' (l ++ s.data.toList) → w.grownBy w' v.ownBlock → wpList P ops Q rest (a.put o.dst v') w') : wpList P ops Q (o :: rest) a w := by
  obtain ⟨i, hi, hz, h1, h2⟩ := hinfo
  refine wpList_append_own_string w hgd sl x t u ho B 5 i ht hu hi hz h1 h2 v l.length (bc l) hv h s hx (by unfold maxLen; omega) (by omega) hB fun v' w' h3 h4 _ => hK v' w' ?_ h4
  show w'.ownsRow B 5 1 v' (l ++ s.data.toList).length (bc (l ++ s.data.toList))
  have e : (l ++ s.data.toList).length = l.length + s.size := by rw [List.length_append, Array.length_toList]; rfl
  rw [e]
  have e2 : bc (l ++ s.data.toList) = bc l ++ strCells s := by simp [bc, strCells]
  rw [e2]
  exact h3
/-- append(v, c) of one byte -/
theorem wpList_app_one {P : Program} (w : World) {ops : Array Oper} {rest : List Oper} {o : Oper} {a : Act} {Q : Exit → Act → World → Prop} (hgd : o.guard = none) (s x : Operand) (t : TypeId)
    (ho : o.op = .call { callee := .builtin .append, args := #[s, x], argTypes := #[t, t] })
    (B : Nat) (hinfo : ∃ i, P.info? 5 = some i ∧ i.zero = some (.int .u8 0) ∧ i.size = 1 ∧ i.bytes = 1) (ht : P.underlying t = some (.slice 5))
    (v : Value) (l : List UInt8) (hv : a.eval s = v) (h : Ro B w v l) (g : Nat) (c : UInt8) (hx : a.eval x = .slice (some ⟨g, 0, none⟩) 1 1) (hc : w.cell? ⟨g, 0, none⟩ = some (.int .u8 (c.toNat : Int))) (hl : l.length ≤ 100000000) (hB : B ≤ w.heap.size)
    (hK : ∀ v' w', Ro B w' v' (l ++ [c]) → w.grownBy w' v.ownBlock → wpList P ops Q rest (a.put o.dst v') w') : wpList P ops Q (o :: rest) a w := by
  obtain ⟨i, hi, hz, h1, h2⟩ := hinfo
  refine wpList_append_own w hgd s x t ho B 5 i (.int .u8 0) 1 1 ht hi hz h1 h2 rfl (by decide) v l.length (bc l) hv h ⟨g, 0, none⟩ 1 1 [.int .u8 (c.toNat : Int)] hx rfl ?_ (by intro u hu; simp at hu; subst hu; rfl) (by unfold maxLen; omega) (by omega) hB fun v' w' h3 h4 _ => hK v' w' ?_ h4
  · intro j u hj
    match j, hj with
    | 0, hj =>
      simp at hj
      subst hj
      rw [Addr.add_lit]
      exact hc
  · show w'.ownsRow B 5 1 v' (l ++ [c]).length (bc (l ++ [c]))
    have e2 : bc (l ++ [c]) = bc l ++ [.int .u8 (c.toNat : Int)] := by simp [bc]
    rw [List.length_append, e2]
    exact h3
/-- string(v) -/
theorem Ro.str {B : Nat} {w : World} {v : Value} {l : List UInt8} (h : Ro B w v l) (hl : 0 < l.length) : (convert 72 9 v).run Tryd.prog w = .ok (.string ⟨l.toArray⟩) w := by
  have h0 := h
  rcases h.2 with ⟨_, h1⟩ | ⟨g, cap, cur, rfl, hb, hg, h1, h2, h3, h4⟩
  · omega
  · refine run_convert_bytes_back w 72 9 5 ⟨g, 0, none⟩ cap l Tryd.underlying72 Tryd.underlying5 Tryd.underlying9 (fun j hj => ?_)
    rw [Addr.add_lit, Nat.zero_add, World.ownsRow.cellAt h0 j (by omega)]
    simp [bc, hj]
theorem Ro.shape {B : Nat} {w : World} {v : Value} {l : List UInt8} (h : Ro B w v l) : ∃ ao cap, v = .slice ao l.length cap := by
  rcases h.2 with ⟨rfl, h1⟩ | ⟨g, cap, cur, rfl, _⟩
  · exact ⟨none, 0, by rw [h1]⟩
  · exact ⟨_, cap, rfl⟩

set_option maxRecDepth 100000 in
set_option maxHeartbeats 2000000 in
theorem quote_any (s : ByteArray) (w : World) (hs : s.size ≤ 8000000) (hT : TabP 2 .i32 hids w) (hD : w.cell? ⟨9, 15, none⟩ = some (.int .u8 4)) :
    Calls Tryd.prog 22 #[.string s] w fun e w' => e = .returned (.string (quo s)) ∧ Below w.heap.size w w' := by
  have hin := info5q
  obtain ⟨i0, hi0, hz0, hz1, hz2⟩ := info5q
  have HT : Hid (∀ w', Below w.heap.size w w' → TabP 2 .i32 hids w') := fun w' hb => hT.kept hb
  have HD : Hid (∀ w', Below w.heap.size w w' → w'.cell? ⟨9, 15, none⟩ = some (.int .u8 4)) := fun w' hb => (hb.cell (p := ⟨9, 15, none⟩) (World.block_lt_of_cell? _ _ hD)).trans hD
  obtain ⟨T, hTT⟩ : ∃ T, 34 :: qs s 0 = T := ⟨_, rfl⟩
  have HQ : Hid (quo s = ⟨(T ++ [34]).toArray⟩) := by show _ = _; unfold quo; rw [← hTT]; rfl
  have HQ0 : Hid ([34] ++ qs s 0 = T) := by show _ = _; rw [← hTT]; rfl
  clear hT hD hTT
  generalize quo s = Z at *
  go_enter Tryd.func22, Tryd.ntmps22
  go_wp2_with (at_make; refine wpList_make_own _ rfl _ _ 72 rfl w.heap.size 5 i0 (.int .u8 0) 1 Tryd.underlying72 hi0 hz0 hz1 _ _ _ (s.size + 2) rfl rfl (by omega) (by rw [hz2]; omega) (by unfold maxLen; omega) (Nat.le_refl _) ?_)
  intro w1 hown hgr
  have B1 : Below w.heap.size w w1 := (Below.refl _ w).grown hgr (Nat.le_refl _) (fun k hk => by cases hk)
  have R1 : Hid (∀ o, Ro w.heap.size (w1.alloc o) (.slice (some ⟨w.heap.size, 0, none⟩) 0 (s.size + 2)) []) := fun o => (show Ro w.heap.size w1 (.slice (some ⟨w.heap.size, 0, none⟩) 0 (s.size + 2)) [] from hown).kept (up0 _ _)
  have hs1 := B1.size
  have HB1 : Hid (∀ o, Below w.heap.size w (w1.alloc o)) := fun o => up B1 o
  clear hown hgr B1
  go_wp2_with (at_builtin; refine wpList_app_one _ rfl (.tmp 10) (.tmp 11) 72 rfl w.heap.size hin Tryd.underlying72 _ [] rfl (R1.out _) _ 34 rfl (World.cell?_alloc_new w1 _ _ 0) (by simp) (by simp; omega) ?_)
  intro v2 w2 hr2 hg2
  have B2 : Below w.heap.size w w2 := (R1.out _).below (HB1.out _) hg2
  have HR2 : Hid (Ro w.heap.size w2 v2 [34]) := hr2
  have HB2 : Hid (Below w.heap.size w w2) := B2
  obtain ⟨ao2, cap2, e2⟩ := hr2.shape
  obtain rfl : v2 = .slice ao2 1 cap2 := e2
  have HI : Hid ((w2.iter s 0).heap[w2.heap.size]? = some (.stringIter s 0)) := World.iter_heap w2 s 0
  have HRI : Hid (Ro w.heap.size (w2.iter s 0) (.slice ao2 1 cap2) [34]) := HR2.out.kept (up_iter w2 s 0)
  have HBI : Hid (Below w.heap.size w (w2.iter s 0)) := andThen HB2.out (up_iter w2 s 0)
  have hsz2 : w.heap.size ≤ w2.heap.size := B2.size
  clear hr2 hg2 B2 R1 HB1
  go_wp2
  go_loopw [3] (fun o wr => ∃ (p : Nat) (L : List UInt8), Ro w.heap.size wr o L ∧ L ++ qs s p = T ∧ L.length ≤ 1 + 12 * p ∧ p ≤ s.size ∧ wr.heap[w2.heap.size]? = some (.stringIter s p) ∧ Below w.heap.size w wr) (fun _ wr => s.size - wr.iterPos w2.heap.size)
  case atStart => exact ⟨0, [34], HRI.out, HQ0.out, by simp, Nat.zero_le _, HI.out, HBI.out⟩
  case round =>
    obtain ⟨p, L, hro, hL, hlen, hp, hit, hbel⟩ := hrel
    have HL : Hid (L ++ qs s p = T) := hL
    have HPOS : Hid (wr.iterPos w2.heap.size = p) := iter_pos hit
    clear hL HI HRI HBI HQ0 HR2 HB2
    by_cases hlt : p < s.size
    · have hd := decode_fits s p hlt
      have hnx : ∀ ty, (Instr.next (.pointer (some ⟨w2.heap.size, 0, none⟩)) true ty).run Tryd.prog wr = _ := fun ty => run_next_at wr w2.heap.size s p ty hit hlt
      have hI2 : (setIter wr w2.heap.size s (p + (Utf8.decode s p).2)).heap[w2.heap.size]? = some (.stringIter s (p + (Utf8.decode s p).2)) := iter_at wr w2.heap.size s _ _ hit
      have hB2 : Below w.heap.size w (setIter wr w2.heap.size s (p + (Utf8.decode s p).2)) := below_iter hbel _ hsz2 s _
      have hR2 : Ro w.heap.size (setIter wr w2.heap.size s (p + (Utf8.decode s p).2)) u3 L := hro.iter hit
      obtain ⟨ao3, cap3, rfl⟩ := hro.shape
      clear hbel hit hro
      generalize setIter wr w2.heap.size s (p + (Utf8.decode s p).2) = w3 at *
      have HST : Hid (∀ w', Calls Tryd.prog 37 #[.string s, .int .i64 (p : Int), .int .i32 ((Utf8.decode s p).1 : Int)] w' fun e w'' => e = .returned (.bool (stray s p)) ∧ w'' = w') := fun w' => stray_any s p w' hlt
      have HP12 : Hid ((pcW s p).size ≤ 12) := pcW_le s p
      have HNX : Hid ((L ++ (pcW s p).data.toList) ++ qs s (p + (Utf8.decode s p).2) = T) := by show _ = _; rw [← HL.out, qs_in s p hlt, List.append_assoc]
      have hr31 := decode_le s p
      have g0 := at_get s p hlt
      have ha0 := at_lt s p
      cases hst : stray s p with
      | true =>
        have HE : Hid (pcW s p = hexB (at' s p)) := by show _ = _; unfold pcW; rw [if_pos hst]
        rw [hst] at HST
        generalize hx0 : s[p]'hlt = x0 at *
        rw [g0] at HE ha0
        clear g0 hst
        obtain ⟨r, hr⟩ : ∃ r : Nat, (Utf8.decode s p).1 = r := ⟨_, rfl⟩
        rw [hr] at hnx HST
        clear hr hr31
        go_wp2_with fail
        refine (HST.out _).mono ?_
        rintro e w4 ⟨rfl, rfl⟩
        go_wp2_with fail
        refine (hexb_any x0.toNat _ ha0).mono ?_
        rw [← HE.out]
        rintro e w5 ⟨rfl, b5⟩
        have B5 := andThen hB2 b5
        have HR5 : Hid (Ro w.heap.size w5 (.slice ao3 L.length cap3) L) := hR2.kept b5
        have hI5 := (b5.block w2.heap.size (Array.getElem?_eq_some_iff.1 hI2).1).trans hI2
        have hs5 := B5.size
        clear b5 hB2 hR2 hI2 HE
        generalize pcW s p = W at *
        go_wp2_with (at_builtin; refine wpList_app_str _ rfl (.tmp 23) (.tmp 27) 72 9 rfl w.heap.size hin Tryd.underlying72 Tryd.underlying9 _ L rfl HR5.out W rfl (by omega) HP12.out hs5 ?_)
        intro v6 w6 hr6 hg6
        have HRL : Hid (Ro w.heap.size w6 v6 (L ++ W.data.toList) ∧ w6.heap[w2.heap.size]? = some (.stringIter s (p + (Utf8.decode s p).2)) ∧ Below w.heap.size w w6) := ⟨hr6, iter_grown HR5.out hI5 hg6, HR5.out.below B5 hg6⟩
        have HPS : Hid (w6.iterPos w2.heap.size = p + (Utf8.decode s p).2) := iter_pos HRL.out.2.1
        have HWL : Hid ((L ++ W.data.toList).length ≤ 1 + 12 * (p + (Utf8.decode s p).2)) := by
          have h1 := HP12.out
          have h2 : W.data.toList.length = W.size := by rw [Array.length_toList]; rfl
          show (L ++ W.data.toList).length ≤ _
          rw [List.length_append, h2]
          omega
        clear hr6 hg6 HR5 hI5 B5
        go_wp2
        go_roundw
        case rel => exact ⟨p + (Utf8.decode s p).2, L ++ W.data.toList, HRL.out.1, HNX.out, HWL.out, hd.2.1, HRL.out.2.1, HRL.out.2.2⟩
        case measure => rw [HPS.out, HPOS.out]; omega
      | false =>
        have HE : Hid (pcW s p = wrt (Utf8.decode s p).1) := by show _ = _; unfold pcW; rw [if_neg (by simp [hst])]
        rw [hst] at HST
        clear g0 hst ha0
        obtain ⟨r, hr⟩ : ∃ r : Nat, (Utf8.decode s p).1 = r := ⟨_, rfl⟩
        rw [hr] at hnx HST HE hr31
        clear hr
        go_wp2_with fail
        refine (HST.out _).mono ?_
        rintro e w4 ⟨rfl, rfl⟩
        go_wp2_with fail
        refine (written_any r _ (by omega) (HT.out _ hB2) (HD.out _ hB2)).mono ?_
        rw [← HE.out]
        rintro e w5 ⟨rfl, b5⟩
        have B5 := andThen hB2 b5
        have HR5 : Hid (Ro w.heap.size w5 (.slice ao3 L.length cap3) L) := hR2.kept b5
        have hI5 := (b5.block w2.heap.size (Array.getElem?_eq_some_iff.1 hI2).1).trans hI2
        have hs5 := B5.size
        clear b5 hB2 hR2 hI2 HE
        generalize pcW s p = W at *
        go_wp2_with (at_builtin; refine wpList_app_str _ rfl (.tmp 29) (.tmp 31) 72 9 rfl w.heap.size hin Tryd.underlying72 Tryd.underlying9 _ L rfl HR5.out W rfl (by omega) HP12.out hs5 ?_)
        intro v6 w6 hr6 hg6
        have HRL : Hid (Ro w.heap.size w6 v6 (L ++ W.data.toList) ∧ w6.heap[w2.heap.size]? = some (.stringIter s (p + (Utf8.decode s p).2)) ∧ Below w.heap.size w w6) := ⟨hr6, iter_grown HR5.out hI5 hg6, HR5.out.below B5 hg6⟩
        have HPS : Hid (w6.iterPos w2.heap.size = p + (Utf8.decode s p).2) := iter_pos HRL.out.2.1
        have HWL : Hid ((L ++ W.data.toList).length ≤ 1 + 12 * (p + (Utf8.decode s p).2)) := by
          have h1 := HP12.out
          have h2 : W.data.toList.length = W.size := by rw [Array.length_toList]; rfl
          show (L ++ W.data.toList).length ≤ _
          rw [List.length_append, h2]
          omega
        clear hr6 hg6 HR5 hI5 B5
        go_wp2
        go_roundw
        case rel => exact ⟨p + (Utf8.decode s p).2, L ++ W.data.toList, HRL.out.1, HNX.out, HWL.out, hd.2.1, HRL.out.2.1, HRL.out.2.2⟩
        case measure => rw [HPS.out, HPOS.out]; omega
    · have hnx : ∀ ty, (Instr.next (.pointer (some ⟨w2.heap.size, 0, none⟩)) true ty).run Tryd.prog wr = _ := fun ty => run_next_over wr w2.heap.size s p ty hit hlt
      have HF : Hid (L = T) := by
        show _ = _
        have := HL.out
        rw [qs_out s p hlt, List.append_nil] at this
        exact this
      obtain ⟨ao3, cap3, rfl⟩ := hro.shape
      have HR5 : Hid (∀ o, Ro w.heap.size (wr.alloc o) (.slice ao3 L.length cap3) L) := fun o => hro.kept (up0 _ _)
      have HB5 : Hid (∀ o, Below w.heap.size w (wr.alloc o)) := fun o => up hbel o
      have hs5 := hbel.size
      clear hro hbel hit HL
      go_wp2_with (at_builtin; refine wpList_app_one _ rfl (.tmp 33) (.tmp 34) 72 rfl w.heap.size hin Tryd.underlying72 _ L rfl (HR5.out _) _ 34 rfl (World.cell?_alloc_new wr _ _ 0) (by omega) (by simp; omega) ?_)
      intro v6 w6 hr6 hg6
      have HB6 : Hid (Below w.heap.size w w6) := (HR5.out _).below (HB5.out _) hg6
      have hcv := hr6.str (by simp)
      obtain ⟨ao6, cap6, e6⟩ := hr6.shape
      rw [List.length_append] at e6
      obtain rfl : v6 = .slice ao6 (L.length + 1) cap6 := e6
      have HFF : Hid (Z = ⟨(L ++ [34]).toArray⟩) := by show _ = _; rw [HQ.out, HF.out]
      rw [← HFF.out] at hcv
      clear hr6 hg6 HR5 HB5
      go_wp2
      go_ret
      exact ⟨rfl, HB6.out⟩
end Go.Proofs.YtneifdbcjicfgaaDoor
