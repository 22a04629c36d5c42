import Derived.WalkKit
import Derived.Laws.RangeAny
import Derived.Laws.Runes
import Derived.Laws.Strings
import Derived.Test.YtdnackjakfiffaaGreatDoorChecked
import Derived.Deep.MidRow
import Derived.Deep.QuietTactic
import Derived.BigQuiet
import Derived.WalkSmall
import Derived.Laws.AppendOwnNone
import Derived.Maps.AppendAt
import Derived.WalkSpells
import Derived.WalkLawsBesides
/-
  UTF-8 as the model reads it: the reading at a place hangs on what stands there alone.
-/
namespace Go.Proofs.YtdnackjakfiffaaGreatDoor.Text
open Go Go.RowKit
namespace Tx

/-- the reading, of the bytes f 0, f 1 .. of which n stand there -/
def rd (f : Nat → Nat) (n : Nat) : Nat × Nat :=
  if f 0 < 0x80 then (f 0, 1)
  else if f 0 / 32 == 6 && (decide (1 < n) && f 1 / 64 == 2) then
    if (f 0 % 32) * 64 + f 1 % 64 ≥ 0x80 then ((f 0 % 32) * 64 + f 1 % 64, 2) else (Utf8.runeError, 1)
  else if f 0 / 16 == 14 && (decide (1 < n) && f 1 / 64 == 2) && (decide (2 < n) && f 2 / 64 == 2) then
    if (f 0 % 16) * 4096 + (f 1 % 64) * 64 + f 2 % 64 ≥ 0x800 && Utf8.valid (((f 0 % 16) * 4096 + (f 1 % 64) * 64 + f 2 % 64 : Nat) : Int) then ((f 0 % 16) * 4096 + (f 1 % 64) * 64 + f 2 % 64, 3) else (Utf8.runeError, 1)
  else if f 0 / 8 == 30 && (decide (1 < n) && f 1 / 64 == 2) && (decide (2 < n) && f 2 / 64 == 2) && (decide (3 < n) && f 3 / 64 == 2) then
    if (f 0 % 8) * 262144 + (f 1 % 64) * 4096 + (f 2 % 64) * 64 + f 3 % 64 ≥ 0x10000 && Utf8.valid (((f 0 % 8) * 262144 + (f 1 % 64) * 4096 + (f 2 % 64) * 64 + f 3 % 64 : Nat) : Int) then ((f 0 % 8) * 262144 + (f 1 % 64) * 4096 + (f 2 % 64) * 64 + f 3 % 64, 4) else (Utf8.runeError, 1)
  else (Utf8.runeError, 1)

/-- the byte at a place -/
def at' (s : ByteArray) (i : Nat) : Nat := (s.get! i).toNat

theorem decode_eq (s : ByteArray) (i : Nat) : Utf8.decode s i = rd (fun k => at' s (i + k)) (s.size - i) := by
  have h1 : decide (1 < s.size - i) = decide (i + 1 < s.size) := by rw [decide_eq_decide]; omega
  have h2 : decide (2 < s.size - i) = decide (i + 2 < s.size) := by rw [decide_eq_decide]; omega
  have h3 : decide (3 < s.size - i) = decide (i + 3 < s.size) := by rw [decide_eq_decide]; omega
  unfold Utf8.decode rd at'
  simp only [h1, h2, h3]

theorem rd_congr {f g : Nat → Nat} {n : Nat} (hn : 0 < n) (h : ∀ k, k < n → f k = g k) : rd f n = rd g n := by
  have h0 := h 0 hn
  unfold rd
  rw [h0]
  by_cases a1 : 1 < n
  · rw [h 1 a1]
    by_cases a2 : 2 < n
    · rw [h 2 a2]
      by_cases a3 : 3 < n
      · rw [h 3 a3]
      · simp [a1, a2, a3]
    · have a3 : ¬ 3 < n := by omega
      simp [a1, a2, a3]
  · have a2 : ¬ 2 < n := by omega
    have a3 : ¬ 3 < n := by omega
    simp [a1, a2, a3]

theorem rd_fits (f : Nat → Nat) (n : Nat) (hn : 0 < n) : 1 ≤ (rd f n).2 ∧ (rd f n).2 ≤ n ∧ (rd f n).2 ≤ 4 := by
  unfold rd
  repeat' split
  all_goals simp_all
  all_goals omega

theorem rd_cut (f : Nat → Nat) (n m : Nat) (hm : m ≤ n) (h : (rd f n).2 ≤ m) (h0 : 0 < m) : rd f m = rd f n := by
  by_cases e : m = n
  · rw [e]
  revert h
  unfold rd
  repeat' split
  all_goals simp_all [Utf8.runeError]
  all_goals first | omega | skip

theorem at_lt (s : ByteArray) (i : Nat) : at' s i < 256 := (s.get! i).toNat_lt
theorem at_get (s : ByteArray) (i : Nat) (h : i < s.size) : at' s i = (s[i]'h).toNat := by
  unfold at'
  rw [← get_at s i h]
  rfl
theorem size_cut (s : ByteArray) (a b : Nat) (hb : b ≤ s.size) : (s.extract a b).size = b - a := by
  rw [ByteArray.size_extract]
  omega
theorem at_cut (s : ByteArray) (a b i : Nat) (hb : b ≤ s.size) (h : i < b - a) : at' (s.extract a b) i = at' s (a + i) := by
  rw [at_get _ i (by rw [size_cut s a b hb]; exact h), at_get s (a + i) (by omega)]
  congr 1
  exact ByteArray.getElem_extract _
theorem decode_fits (s : ByteArray) (i : Nat) (h : i < s.size) : 1 ≤ (Utf8.decode s i).2 ∧ i + (Utf8.decode s i).2 ≤ s.size ∧ (Utf8.decode s i).2 ≤ 4 := by
  have := rd_fits (fun k => at' s (i + k)) (s.size - i) (by omega)
  rw [decode_eq]
  omega
theorem decode_part (s : ByteArray) (a b i : Nat) (hb : b ≤ s.size) (h : i < b - a) (hw : a + i + (Utf8.decode s (a + i)).2 ≤ b) : Utf8.decode (s.extract a b) i = Utf8.decode s (a + i) := by
  rw [decode_eq] at hw ⊢
  rw [decode_eq s, size_cut s a b hb]
  rw [rd_congr (g := fun k => at' s (a + i + k)) (by omega) (fun k hk => ?_)]
  · exact rd_cut _ _ _ (by omega) (by omega) (by omega)
  · show at' _ (i + k) = at' s (a + i + k)
    rw [at_cut s a b (i + k) hb (by omega), Nat.add_assoc]
theorem decode_drop (s : ByteArray) (a i : Nat) (h : a + i < s.size) : Utf8.decode (s.extract a s.size) i = Utf8.decode s (a + i) :=
  decode_part s a s.size i (Nat.le_refl _) (by omega) (by have := decode_fits s (a + i) h; omega)

/-- a stray byte stands there -/
def stray (s : ByteArray) (i : Nat) : Bool := decide (128 ≤ at' s i) && decide ((Utf8.decode s i).2 = 1)
theorem rd_stray (f : Nat → Nat) (n : Nat) (h0 : f 0 < 256) (h1 : f 1 < 256) (h2 : f 2 < 256) :
    (decide (128 ≤ f 0) && decide ((rd f n).2 = 1)) = (decide ((rd f n).1 = 65533) && !(decide (3 ≤ n) && decide (f 0 = 239 ∧ f 1 = 191 ∧ f 2 = 189))) := by
  rw [Bool.eq_iff_iff]
  unfold rd
  generalize f 0 = b0 at *
  generalize f 1 = b1 at *
  generalize f 2 = b2 at *
  generalize f 3 = b3 at *
  by_cases a0 : b0 < 128
  · simp [a0]; omega
  simp only [a0, if_false]
  by_cases a1 : (b0 / 32 == 6 && (decide (1 < n) && b1 / 64 == 2)) = true
  · simp only [a1, if_true]
    simp at a1
    split <;> simp [Utf8.runeError] <;> omega
  simp only [a1]
  by_cases a2 : (b0 / 16 == 14 && (decide (1 < n) && b1 / 64 == 2) && (decide (2 < n) && b2 / 64 == 2)) = true
  · simp only [a2, if_true]
    simp at a2
    by_cases a3 : (decide (b0 % 16 * 4096 + b1 % 64 * 64 + b2 % 64 ≥ 2048) && Utf8.valid ((b0 % 16 * 4096 + b1 % 64 * 64 + b2 % 64 : Nat) : Int)) = true
    · rw [if_pos a3]
      simp
      omega
    · rw [if_neg a3]
      simp [Utf8.runeError]
      simp [Utf8.valid] at a3
      omega
  simp only [a2]
  have a4 : ¬ (3 ≤ n ∧ b0 = 239 ∧ b1 = 191 ∧ b2 = 189) := by
    rintro ⟨x, rfl, rfl, rfl⟩
    simp at a2
    omega
  by_cases a3 : (b0 / 8 == 30 && (decide (1 < n) && b1 / 64 == 2) && (decide (2 < n) && b2 / 64 == 2) && (decide (3 < n) && b3 / 64 == 2)) = true
  · simp only [a3, if_true]
    by_cases a5 : (decide (b0 % 8 * 262144 + b1 % 64 * 4096 + b2 % 64 * 64 + b3 % 64 ≥ 65536) && Utf8.valid ((b0 % 8 * 262144 + b1 % 64 * 4096 + b2 % 64 * 64 + b3 % 64 : Nat) : Int)) = true
    · rw [if_pos a5]
      simp at a5 ⊢
      omega
    · rw [if_neg a5]
      simp [Utf8.runeError]
      omega
  simp only [a3]
  simp [Utf8.runeError]
  omega
/-- as the program tells it -/
theorem stray_eq (s : ByteArray) (i : Nat) :
    stray s i = (decide ((Utf8.decode s i).1 = 65533) && !(decide (3 ≤ s.size - i) && decide (at' s i = 239 ∧ at' s (i + 1) = 191 ∧ at' s (i + 2) = 189))) := by
  unfold stray
  rw [decode_eq]
  exact rd_stray (fun k => at' s (i + k)) (s.size - i) (at_lt s _) (at_lt s _) (at_lt s _)

/-- HasPrefix -/
def pre (s p : ByteArray) : Bool := decide (p.size ≤ s.size) && ((s.extract 0 p.size).toList == p.toList)
theorem toList_get (s : ByteArray) (k : Nat) (h : k < s.size) : s.toList[k]? = some (s.get! k) := by
  rw [ByteArray.toList_eq, List.getElem?_eq_getElem (by simpa using h)]
  congr 1
  have := get_at s k h
  rw [Nat.add_zero] at this
  rw [this]
  rfl
theorem toList_len (s : ByteArray) : s.toList.length = s.size := by
  rw [ByteArray.toList_eq]
  rfl
theorem u8_eq {a b : UInt8} (h : a.toNat = b.toNat) : a = b := UInt8.toNat_inj.1 h
theorem pre3 (s : ByteArray) (a b c : UInt8) : pre s ⟨#[a, b, c]⟩ = (decide (3 ≤ s.size) && decide (at' s 0 = a.toNat ∧ at' s 1 = b.toNat ∧ at' s 2 = c.toNat)) := by
  unfold pre
  show (decide (3 ≤ s.size) && _) = _
  by_cases h : 3 ≤ s.size
  · rw [decide_eq_true h, Bool.true_and, Bool.true_and, Bool.eq_iff_iff]
    have e : (s.extract 0 3).toList = [s.get! 0, s.get! 1, s.get! 2] := by
      have hz : (s.extract 0 3).size = 3 := size_cut s 0 3 h
      have key : ∀ k, k < 3 → (s.extract 0 3).get! k = s.get! k := fun k hk => u8_eq (by
        have := at_cut s 0 3 k h (by omega)
        rw [Nat.zero_add] at this
        exact this)
      apply List.ext_getElem?
      intro k
      match k with
      | 0 => rw [toList_get _ 0 (by omega), key 0 (by omega)]; rfl
      | 1 => rw [toList_get _ 1 (by omega), key 1 (by omega)]; rfl
      | 2 => rw [toList_get _ 2 (by omega), key 2 (by omega)]; rfl
      | k + 3 => rw [List.getElem?_eq_none (by rw [toList_len]; omega), List.getElem?_eq_none (by simp)]
    show ((s.extract 0 3).toList == _) = true ↔ _
    rw [e]
    have e2 : (⟨#[a, b, c]⟩ : ByteArray).toList = [a, b, c] := by rw [ByteArray.toList_eq]
    rw [e2]
    simp [at', UInt8.toNat_inj]
  · rw [decide_eq_false h, Bool.false_and, Bool.false_and]
theorem stray_pre (s : ByteArray) (i : Nat) : stray s i = (decide ((Utf8.decode s i).1 = 65533) && !(pre (s.extract i s.size) ⟨#[239, 191, 189]⟩)) := by
  rw [stray_eq, pre3, size_cut s i s.size (Nat.le_refl _)]
  congr 2
  by_cases h3 : 3 ≤ s.size - i
  · rw [at_cut s i s.size 0 (Nat.le_refl _) (by omega), at_cut s i s.size 1 (Nat.le_refl _) (by omega), at_cut s i s.size 2 (Nat.le_refl _) (by omega)]
    rfl
  · rw [decide_eq_false h3, Bool.false_and, Bool.false_and]

/-- the place behind the first n runes from p on -/
def offs (s : ByteArray) : Nat → Nat → Nat
  | 0, p => p
  | n + 1, p => if p < s.size then offs s n (p + (Utf8.decode s p).2) else p
theorem offs_end (s : ByteArray) (n p : Nat) (h : ¬ p < s.size) : offs s n p = p := by
  cases n with
  | zero => rfl
  | succ n => rw [offs, if_neg h]
theorem offs_le (s : ByteArray) : ∀ (n p : Nat), p ≤ s.size → p ≤ offs s n p ∧ offs s n p ≤ s.size
  | 0, p, h => ⟨Nat.le_refl _, h⟩
  | n + 1, p, h => by
    rw [offs]
    split
    · next h1 =>
      have h2 := decode_fits s p h1
      have h3 := offs_le s n (p + (Utf8.decode s p).2) h2.2.1
      omega
    · exact ⟨Nat.le_refl _, h⟩
theorem offs_mono (s : ByteArray) : ∀ (i j p : Nat), i ≤ j → p ≤ s.size → offs s i p ≤ offs s j p
  | 0, j, p, _, hp => (offs_le s j p hp).1
  | i + 1, 0, p, h, _ => by omega
  | i + 1, j + 1, p, h, hp => by
    rw [offs, offs]
    split
    · next h1 => exact offs_mono s i j _ (by omega) (decode_fits s p h1).2.1
    · exact Nat.le_refl _
theorem offs_far (s : ByteArray) : ∀ (n p : Nat), p ≤ s.size → s.size ≤ p + n → offs s n p = s.size
  | 0, p, h, h2 => by show p = s.size; omega
  | n + 1, p, h, h2 => by
    rw [offs]
    split
    · next h1 =>
      have h3 := decode_fits s p h1
      exact offs_far s n _ h3.2.1 (by omega)
    · omega
theorem offs_part (s : ByteArray) : ∀ (i j p : Nat), i ≤ j → p ≤ s.size → offs (s.extract 0 (offs s j p)) i p = offs s i p
  | 0, _, _, _, _ => rfl
  | i + 1, 0, p, h, _ => by omega
  | i + 1, j + 1, p, h, hp => by
    by_cases h1 : p < s.size
    · have h2 := decode_fits s p h1
      have h3 := offs_le s j _ h2.2.1
      have e : offs s (j + 1) p = offs s j (p + (Utf8.decode s p).2) := by rw [offs, if_pos h1]
      have hz : (s.extract 0 (offs s j (p + (Utf8.decode s p).2))).size = offs s j (p + (Utf8.decode s p).2) := size_cut s 0 _ h3.2
      have hd : Utf8.decode (s.extract 0 (offs s j (p + (Utf8.decode s p).2))) p = Utf8.decode s p := by
        rw [decode_part s 0 _ p h3.2 (by omega) (by rw [Nat.zero_add]; omega), Nat.zero_add]
      rw [e, offs, if_pos (by rw [hz]; omega), hd, offs, if_pos h1]
      exact offs_part s i j _ (by omega) h2.2.1
    · rw [offs_end s (j + 1) p h1, offs_end s (i + 1) p h1, offs_end _ (i + 1) p (by rw [size_cut s 0 p hp]; omega)]
/-- Clip -/
def clip (s : ByteArray) (n : Int) : ByteArray := s.extract 0 (offs s n.toNat 0)
/-- Valid from p on -/
def vld (s : ByteArray) (p : Nat) : Int := if h : p < s.size then (if stray s p then (p : Int) else vld s (p + (Utf8.decode s p).2)) else -1
termination_by s.size - p
decreasing_by
  have := decode_fits s p h
  omega
theorem vld_step (s : ByteArray) (p : Nat) (h : p < s.size) (hs : stray s p = false) : vld s p = vld s (p + (Utf8.decode s p).2) := by
  rw [vld, dif_pos h, hs]
  rfl
theorem vld_end (s : ByteArray) (p : Nat) (h : ¬ p < s.size) : vld s p = -1 := by
  rw [vld, dif_neg h]
theorem vld_hit (s : ByteArray) (p : Nat) (h : p < s.size) (hs : stray s p = true) : vld s p = (p : Int) := by
  rw [vld, dif_pos h, hs]
  rfl
theorem vld_no (s : ByteArray) (p : Nat) (h : p < s.size) (hv : vld s p = -1) : stray s p = false := by
  cases hs : stray s p with
  | false => rfl
  | true =>
    rw [vld_hit s p h hs] at hv
    omega
theorem vld_offs (s : ByteArray) : ∀ (n p : Nat), vld s p = -1 → vld s (offs s n p) = -1
  | 0, _, h => h
  | n + 1, p, h => by
    rw [offs]
    split
    · next h1 =>
      rw [vld_step s p h1 (vld_no s p h1 h)] at h
      exact vld_offs s n _ h
    · exact h
theorem stray_part (s : ByteArray) (a b i : Nat) (hb : b ≤ s.size) (h : i < b - a) (hw : a + i + (Utf8.decode s (a + i)).2 ≤ b) : stray (s.extract a b) i = stray s (a + i) := by
  unfold stray
  rw [decode_part s a b i hb h hw, at_cut s a b i hb h]
theorem vld_drop (s : ByteArray) (a : Nat) (ha : a ≤ s.size) : ∀ (k i : Nat), s.size - (a + i) ≤ k → vld s (a + i) = -1 → vld (s.extract a s.size) i = -1
  | k, i, hk, h => by
    have hz := size_cut s a s.size (Nat.le_refl _)
    by_cases h1 : a + i < s.size
    · have h2 := decode_fits s (a + i) h1
      have h3 : stray (s.extract a s.size) i = false := by rw [stray_part s a s.size i (Nat.le_refl _) (by omega) h2.2.1]; exact vld_no s _ h1 h
      rw [vld_step _ i (by omega) h3, decode_drop s a i h1]
      rw [vld_step s (a + i) h1 (vld_no s _ h1 h)] at h
      match k, hk with
      | 0, hk => omega
      | k + 1, hk =>
        exact vld_drop s a ha k (i + (Utf8.decode s (a + i)).2) (by omega) (by rw [← Nat.add_assoc]; exact h)
    · exact vld_end _ _ (by omega)
theorem vld_take (s : ByteArray) : ∀ (n p : Nat), p ≤ s.size → vld s p = -1 → vld (s.extract 0 (offs s n p)) p = -1
  | 0, p, hp, _ => vld_end _ _ (by rw [offs, size_cut s 0 p hp]; omega)
  | n + 1, p, hp, h => by
    by_cases h1 : p < s.size
    · have h2 := decode_fits s p h1
      have h3 := offs_le s n _ h2.2.1
      have e : offs s (n + 1) p = offs s n (p + (Utf8.decode s p).2) := by rw [offs, if_pos h1]
      rw [e]
      have hz := size_cut s 0 (offs s n (p + (Utf8.decode s p).2)) h3.2
      have hd : Utf8.decode (s.extract 0 (offs s n (p + (Utf8.decode s p).2))) p = Utf8.decode s p := by
        rw [decode_part s 0 _ p h3.2 (by omega) (by rw [Nat.zero_add]; omega), Nat.zero_add]
      have hs : stray (s.extract 0 (offs s n (p + (Utf8.decode s p).2))) p = false := by
        rw [stray_part s 0 _ p h3.2 (by omega) (by rw [Nat.zero_add]; omega), Nat.zero_add]
        exact vld_no s p h1 h
      rw [vld_step _ p (by omega) hs, hd]
      rw [vld_step s p h1 (vld_no s p h1 h)] at h
      exact vld_take s n _ h2.2.1 h
    · rw [offs_end s _ p h1]
      exact vld_end _ _ (by rw [size_cut s 0 p hp]; omega)
end Tx
end Go.Proofs.YtdnackjakfiffaaGreatDoor.Text

/-
  Package text: HasPrefix of the library, stray, Valid, Clip; the law package's cutText.
-/
namespace Go.Proofs.YtdnackjakfiffaaGreatDoor.Text
open Go Go.RowKit
open Tx

theorem up {w w1 : World} (h : Below w.heap.size w w1) (o : Obj) : Below w.heap.size w (w1.alloc o) := h.alloc h.size o
theorem andThen {w w1 w2 : World} (h : Below w.heap.size w w1) (k : Below w1.heap.size w1 w2) : Below w.heap.size w w2 := h.trans (k.mono h.size)
theorem up0 (w : World) (o : Obj) : Below w.heap.size w (w.alloc o) := up (Below.refl _ _) o
theorem up_iter (w : World) (s : ByteArray) (p : Nat) : Below w.heap.size w (w.iter s p) := up0 w _

theorem hpl_any (s p : ByteArray) (w : World) :
    Calls Tryz.prog 118 #[.string s, .string p] w fun e w' => e = .returned (.bool (pre s p)) ∧ w' = w := by
  by_cases h : p.size ≤ s.size
  · have hp : pre s p = ((s.extract 0 p.size).toList == p.toList) := by unfold pre; rw [decide_eq_true h, Bool.true_and]
    have HP : Hid (pre s p = ((s.extract 0 p.size).toList == p.toList)) := hp
    clear hp
    go_enter Tryz.func118, Tryz.ntmps118
    go_wp2
    go_ret
    rw [HP.out]
    exact ⟨rfl, rfl⟩
  · have hp : pre s p = false := by unfold pre; rw [decide_eq_false h, Bool.false_and]
    have HP : Hid (pre s p = false) := hp
    clear hp
    go_enter Tryz.func118, Tryz.ntmps118
    go_wp2
    go_ret
    rw [HP.out]
    exact ⟨rfl, rfl⟩
theorem hp_any (s p : ByteArray) (w : World) :
    Calls Tryz.prog 103 #[.string s, .string p] w fun e w' => e = .returned (.bool (pre s p)) ∧ w' = w := by
  go_enter Tryz.func103, Tryz.ntmps103
  go_wp2_with fail
  refine (hpl_any s p _).mono ?_
  rintro e w1 ⟨rfl, rfl⟩
  go_wp2
  go_ret
  exact ⟨rfl, rfl⟩
theorem stray_any (s : ByteArray) (i : Nat) (w : World) (h : i < s.size) :
    Calls Tryz.prog 88 #[.string s, .int .i64 (i : Int), .int .i32 ((Utf8.decode s i).1 : Int)] w fun e w' => e = .returned (.bool (stray s i)) ∧ w' = w := by
  have hs := stray_pre s i
  generalize stray s i = b at *
  generalize (Utf8.decode s i).1 = r at *
  by_cases hr : r = 65533
  · subst hr
    have HS : Hid (b = !(pre (s.extract i s.size) ⟨#[239, 191, 189]⟩)) := by show _ = _; rw [hs]; simp
    clear hs
    go_enter Tryz.func88, Tryz.ntmps88
    go_wp2_with fail
    refine (hp_any _ _ _).mono ?_
    rintro e w1 ⟨rfl, rfl⟩
    go_wp2
    go_ret
    rw [HS.out]
    exact ⟨rfl, rfl⟩
  · have HS : Hid (b = false) := by show _ = _; rw [hs, decide_eq_false hr]; rfl
    clear hs
    go_enter Tryz.func88, Tryz.ntmps88
    go_wp2
    go_ret
    rw [HS.out]
    exact ⟨rfl, rfl⟩
end Go.Proofs.YtdnackjakfiffaaGreatDoor.Text

/-
  Package text: Valid, Clip; the law package's cutText.
-/
namespace Go.Proofs.YtdnackjakfiffaaGreatDoor.Text
open Go Go.RowKit
open Tx

/-- cutText -/
def cutT (s : ByteArray) : ByteArray := if s.size ≤ 131072 then s else s.extract 0 131072
theorem cutT_le (s : ByteArray) : (cutT s).size ≤ 131072 := by
  unfold cutT
  split
  · assumption
  · rw [size_cut s 0 131072 (by omega)]
    omega
end Go.Proofs.YtdnackjakfiffaaGreatDoor.Text

/-
  Package text: the table of letters; Letter.
-/
namespace Go.Proofs.YtdnackjakfiffaaGreatDoor.Text
open Go Go.RowKit
open Tx

namespace Tx
/-- letters -/
def lets : List (Int × Int) := [(65, 90), (97, 122), (192, 214), (216, 246), (248, 383), (913, 929), (931, 937), (940, 974), (1024, 1119), (1329, 1366), (1488, 1514), (1569, 1594), (1601, 1610), (2308, 2361), (3585, 3632), (4304, 4346), (12353, 12438), (12449, 12538), (19968, 40959), (44032, 55203), (66560, 66639), (131072, 173791)]
def hids : List (Int × Int) := [(128, 159), (173, 173), (8203, 8207), (8232, 8238), (8288, 8292), (65279, 65279), (65529, 65531), (917505, 917631)]
def flat (t : List (Int × Int)) : List Int := t.flatMap fun p => [p.1, p.2]
def among (t : List (Int × Int)) (r : Int) : Bool := t.any fun p => decide (p.1 ≤ r) && decide (r ≤ p.2)
theorem flat_len (t : List (Int × Int)) : (flat t).length = 2 * t.length := by
  induction t with
  | nil => rfl
  | cons p t ih => simp only [flat, List.flatMap_cons, List.length_append, List.length_cons, List.length_nil] at *; omega
theorem flat_get (t : List (Int × Int)) : ∀ (k : Nat) (h : k < t.length), (flat t)[2 * k]? = some t[k].1 ∧ (flat t)[2 * k + 1]? = some t[k].2 := by
  induction t with
  | nil => intro k h; simp at h
  | cons p t ih =>
    intro k h
    cases k with
    | zero => exact ⟨rfl, rfl⟩
    | succ k =>
      have := ih k (by simpa using h)
      simp only [flat, List.flatMap_cons] at *
      exact this
theorem among_take (t : List (Int × Int)) (r : Int) (k : Nat) (h : k < t.length) : among (t.take (k + 1)) r = (among (t.take k) r || (decide (t[k].1 ≤ r) && decide (r ≤ t[k].2))) := by
  unfold among
  rw [List.take_succ_eq_append_getElem h, List.any_append]
  simp
theorem among_yes (t : List (Int × Int)) (r : Int) (k : Nat) (h : k < t.length) (h1 : t[k].1 ≤ r) (h2 : r ≤ t[k].2) : among t r = true := by
  unfold among
  rw [List.any_eq_true]
  exact ⟨t[k], List.getElem_mem h, by simp [h1, h2]⟩
end Tx
/-- the numbers of a table of pairs in a block's cells -/
def TabP (g : Nat) (k : IntKind) (t : List (Int × Int)) (w : World) : Prop := ∀ j (h : j < (flat t).length), w.cell? ⟨g, j, none⟩ = some (.int k (flat t)[j])
theorem TabP.kept {g : Nat} {k : IntKind} {t : List (Int × Int)} {w w' : World} (h : TabP g k t w) (hb : Below w.heap.size w w') : TabP g k t w' := fun j hj =>
  (hb.cell (p := ⟨g, j, none⟩) (World.block_lt_of_cell? _ _ (h j hj))).trans (h j hj)
theorem TabP.range {g : Nat} {k : IntKind} {t : List (Int × Int)} {w : World} (h : TabP g k t w) : w.rangeAt g 0 ((flat t).map fun z => Value.int k z) := by
  intro j v hv
  rw [List.getElem?_map, Option.map_eq_some_iff] at hv
  obtain ⟨z, hz, rfl⟩ := hv
  obtain ⟨hj, rfl⟩ := List.getElem?_eq_some_iff.1 hz
  rw [Nat.zero_add]
  exact h j hj
/-- the k-th pair of a table by value -/
theorem run_index_pair {P : Program} (w : World) (ta te : TypeId) (n : Nat) (d : TypeDesc) (k : IntKind) (t : List (Int × Int)) (i : Nat) (hi : i < t.length) (hn : t.length = n) (ht : P.underlying ta = some (.array n te)) (he : P.underlying te = some d) (hd : d.isRow = true) (hs : (P.info? te).map (·.size) = some 2) :
    (Instr.index ta (.agg ((flat t).map fun z => Value.int k z).toArray) (.int .i64 (i : Int))).run P w = .ok (.agg #[.int k t[i].1, .int k t[i].2]) w := by
  have h1 : (0 : Int) ≤ (i : Int) ∧ (i : Int) < (n : Int) := by omega
  have hagg : (isAgg te).run P w = .ok true w := by
    unfold isAgg
    rw [Sem.run_bind, run_underlying he w]
    cases d <;> simp_all [TypeDesc.isRow]
  cases hq : P.info? te with
  | none => simp [hq] at hs
  | some inf =>
    have hz : inf.size = 2 := by simpa [hq] using hs
    have e : List.take 2 (List.drop (i * 2) (List.map (fun z => Value.int k z) (flat t))) = [.int k t[i].1, .int k t[i].2] := by
      have hg := flat_get t i hi
      apply List.ext_getElem?
      intro j
      match j with
      | 0 => simp [Nat.mul_comm i 2, hg.1]
      | 1 => simp [List.getElem?_drop, Nat.mul_comm i 2, hg.2]
      | j + 2 => rw [List.getElem?_eq_none (by simp; omega), List.getElem?_eq_none (by simp)]
    have h2 : i < n := by omega
    simp [Instr.index, run_underlying ht, asIntOf, h2, part, hagg, sizeOf, typeInfo, hq, hz, e, go_sem]

theorem infoSpan : (Tryz.prog.info? 122).map (·.size) = some 2 := by kernel_rfl
theorem infoLets : (Tryz.prog.info? 123).map (·.size) = some 44 := by kernel_rfl

theorem has_any (a b r : Int) (w : World) :
    Calls Tryz.prog 87 #[.agg #[.int .i32 a, .int .i32 b], .int .i32 r] w fun e w' => e = .returned (.bool (decide (a ≤ r) && decide (r ≤ b))) ∧ Below w.heap.size w w' := by
  by_cases h1 : a ≤ r
  · have H1 : Hid ((decide (a ≤ r) && decide (r ≤ b)) = decide (r ≤ b)) := by show _ = _; rw [decide_eq_true h1, Bool.true_and]
    rw [H1.out]
    go_enter Tryz.func87, Tryz.ntmps87
    go_wp2
    go_ret
    exact ⟨rfl, up0 _ _⟩
  · have H1 : Hid ((decide (a ≤ r) && decide (r ≤ b)) = false) := by show _ = _; rw [decide_eq_false h1, Bool.false_and]
    rw [H1.out]
    go_enter Tryz.func87, Tryz.ntmps87
    go_wp2
    go_ret
    exact ⟨rfl, up0 _ _⟩

set_option maxRecDepth 100000 in
theorem letter_any (r : Int) (w : World) (hT : TabP 2 .i32 lets w) :
    Calls Tryz.prog 71 #[.int .i32 r] w fun e w' => e = .returned (.bool (among lets r)) ∧ Below w.heap.size w w' := by
  have HIX : Hid (∀ w' (i : Nat) (hi : i < lets.length), (Instr.index 123 (.agg ((flat lets).map fun z => Value.int .i32 z).toArray) (.int .i64 (i : Int))).run Tryz.prog w' = .ok (.agg #[.int .i32 lets[i].1, .int .i32 lets[i].2]) w') :=
    fun w' i hi => run_index_pair w' 123 122 22 _ .i32 lets i hi rfl Tryz.underlying123 Tryz.underlying122 rfl infoSpan
  have HR := hT.range
  generalize hC : ((flat lets).map fun z => Value.int .i32 z) = C at *
  have HL : Hid (lets.length = 22) := rfl
  have HN : Hid ((Tryz.prog.info? 123).map (·.size) = some C.length) := by show _ = _; rw [← hC]; exact infoLets
  clear hC hT
  go_enter Tryz.func71, Tryz.ntmps71
  go_wp2_with (refine wpList_load_mid rfl 123 _ rfl 2 0 rfl C _ HR Tryz.underlying123 rfl HN.out ?_)
  clear HR HN
  have H0 : Hid (among (lets.take 0) r = false) := rfl
  go_loopw [6] (fun i wr => ∃ k : Nat, k ≤ 22 ∧ i = .int .i64 (k : Int) ∧ among (lets.take k) r = false ∧ Below w.heap.size w wr) (fun i _ => 22 - (intOf i).toNat)
  case atStart => exact ⟨0, by omega, rfl, H0.out, Below.refl _ _⟩
  case round =>
    obtain ⟨k, hk, rfl, ha, hbel⟩ := hrel
    have HA : Hid (among (lets.take k) r = false) := ha
    clear ha
    by_cases hlt : k < 22
    · have hkl : k < lets.length := by rw [HL.out]; exact hlt
      have hix := fun w' => HIX.out w' k hkl
      have HS : Hid (among (lets.take (k + 1)) r = (among (lets.take k) r || (decide (lets[k].1 ≤ r) && decide (r ≤ lets[k].2)))) := among_take lets r k hkl
      have HY : Hid (lets[k].1 ≤ r → r ≤ lets[k].2 → among lets r = true) := among_yes lets r k hkl
      generalize lets[k].1 = lo at *
      generalize lets[k].2 = hi at *
      clear HIX hkl
      go_wp2_with fail
      refine (has_any lo hi r _).mono ?_
      rintro e w1 ⟨rfl, b1⟩
      have hb1 := andThen (up hbel _) b1
      clear b1 hbel hix
      by_cases hh : lo ≤ r ∧ r ≤ hi
      · have HT : Hid ((decide (lo ≤ r) && decide (r ≤ hi)) = true) := by show _ = _; simp [hh]
        have HY2 : Hid (among lets r = true) := HY.out hh.1 hh.2
        rw [HT.out]
        clear HY HS
        go_wp2
        go_ret
        rw [HY2.out]
        exact ⟨rfl, hb1⟩
      · have HT : Hid ((decide (lo ≤ r) && decide (r ≤ hi)) = false) := by show _ = _; simp; omega
        have HS2 : Hid (among (lets.take (k + 1)) r = false) := by show _ = _; rw [HS.out, HA.out, HT.out]; rfl
        rw [HT.out]
        clear HY HS
        go_wp2
        go_roundw
        case rel => exact ⟨k + 1, by omega, by go_num, HS2.out, hb1⟩
        case measure => simp [intOf]; omega
    · obtain rfl : k = 22 := by omega
      have HF : Hid (among lets r = false) := HA.out
      go_wp2
      go_ret
      rw [HF.out]
      exact ⟨rfl, hbel⟩
end Go.Proofs.YtdnackjakfiffaaGreatDoor.Text

/-
  The reference's table of letters: within, Letter.
-/
namespace Go.Proofs.YtdnackjakfiffaaGreatDoor.Text
open Go Go.RowKit
open Tx

end Go.Proofs.YtdnackjakfiffaaGreatDoor.Text

/-
  Package text: digit, nameRune, odd; the reference's nameRune.
-/
namespace Go.Proofs.YtdnackjakfiffaaGreatDoor.Text
open Go Go.RowKit
open Tx

namespace Tx
def dig (r : Int) : Bool := decide (48 ≤ r) && decide (r ≤ 57)
def nmR (r : Int) : Bool := among lets r || (dig r || (decide (r = 45) || (decide (r = 95) || decide (r = 46))))
end Tx
theorem digit_any (r : Int) (w : World) :
    Calls Tryz.prog 86 #[.int .i32 r] w fun e w' => e = .returned (.bool (dig r)) ∧ w' = w := by
  by_cases h1 : 48 ≤ r
  · have H1 : Hid (dig r = decide (r ≤ 57)) := by show _ = _; unfold dig; rw [decide_eq_true h1, Bool.true_and]
    rw [H1.out]
    go_enter Tryz.func86, Tryz.ntmps86
    go_wp2
    go_ret
    exact ⟨rfl, rfl⟩
  · have H1 : Hid (dig r = false) := by show _ = _; unfold dig; rw [decide_eq_false h1, Bool.false_and]
    rw [H1.out]
    go_enter Tryz.func86, Tryz.ntmps86
    go_wp2
    go_ret
    exact ⟨rfl, rfl⟩

theorem nmR_cases (r : Int) : (among lets r = true ∧ nmR r = true) ∨ (among lets r = false ∧ dig r = true ∧ nmR r = true) ∨ (among lets r = false ∧ dig r = false ∧ ((r = 45 ∧ nmR r = true) ∨ (¬ r = 45 ∧ ((r = 95 ∧ nmR r = true) ∨ (¬ r = 95 ∧ ((r = 46 ∧ nmR r = true) ∨ (¬ r = 46 ∧ nmR r = false))))))) := by
  unfold nmR
  cases among lets r with
  | true => simp
  | false =>
    cases dig r with
    | true => simp
    | false =>
      by_cases h1 : r = 45
      · simp [h1]
      · by_cases h2 : r = 95
        · simp [h2]
        · by_cases h3 : r = 46
          · simp [h3]
          · simp [h1, h2, h3]

set_option maxRecDepth 100000 in
set_option maxHeartbeats 1000000 in
theorem namer_any (r : Int) (w : World) (hT : TabP 2 .i32 lets w) :
    Calls Tryz.prog 70 #[.int .i32 r] w fun e w' => e = .returned (.bool (nmR r)) ∧ Below w.heap.size w w' := by
  rcases nmR_cases r with ⟨a, n⟩ | ⟨a, d, n⟩ | ⟨a, d, h⟩
  · have HA : Hid (among lets r = true) := a
    rw [n]
    clear a n
    go_enter Tryz.func70, Tryz.ntmps70
    go_wp2_with fail
    refine (letter_any r _ hT).mono ?_
    rw [HA.out]
    rintro e w1 ⟨rfl, b1⟩
    go_wp2
    go_ret
    exact ⟨rfl, b1⟩
  · have HA : Hid (among lets r = false) := a
    have HD : Hid (dig r = true) := d
    rw [n]
    clear a n d
    go_enter Tryz.func70, Tryz.ntmps70
    go_wp2_with fail
    refine (letter_any r _ hT).mono ?_
    rw [HA.out]
    rintro e w1 ⟨rfl, b1⟩
    go_wp2_with fail
    refine (digit_any r _).mono ?_
    rw [HD.out]
    rintro e w2 ⟨rfl, rfl⟩
    go_wp2
    go_ret
    exact ⟨rfl, b1⟩
  · have HA : Hid (among lets r = false) := a
    have HD : Hid (dig r = false) := d
    clear a d
    rcases h with ⟨rfl, n⟩ | ⟨h1, ⟨rfl, n⟩ | ⟨h2, ⟨rfl, n⟩ | ⟨h3, n⟩⟩⟩
    all_goals
      rw [n]
      clear n
      try have e1 : (r == 45) = false := by simp [h1]
      try have e2 : (r == 95) = false := by simp [h2]
      try have e3 : (r == 46) = false := by simp [h3]
      go_enter Tryz.func70, Tryz.ntmps70
      go_wp2_with fail
      refine (letter_any _ _ hT).mono ?_
      rw [HA.out]
      rintro e w1 ⟨rfl, b1⟩
      go_wp2_with fail
      refine (digit_any _ _).mono ?_
      rw [HD.out]
      rintro e w2 ⟨rfl, rfl⟩
      go_wp2
      go_ret
      exact ⟨rfl, b1⟩

theorem odd_any (s : ByteArray) (i : Nat) (w : World) (h : i < s.size) :
    Calls Tryz.prog 72 #[.string s, .int .i64 (i : Int), .int .i32 ((Utf8.decode s i).1 : Int)] w fun e w' => e = .returned (.int .i64 (if stray s i then 21 else 22)) ∧ w' = w := by
  have HS : Hid (∀ w', Calls Tryz.prog 88 #[.string s, .int .i64 (i : Int), .int .i32 ((Utf8.decode s i).1 : Int)] w' fun e w'' => e = .returned (.bool (stray s i)) ∧ w'' = w') := fun w' => stray_any s i w' h
  generalize (Utf8.decode s i).1 = r at *
  cases hb : stray s i with
  | true =>
    rw [hb] at HS
    clear hb
    go_enter Tryz.func72, Tryz.ntmps72
    go_wp2_with fail
    refine (HS.out _).mono ?_
    rintro e w1 ⟨rfl, rfl⟩
    go_wp2
    go_ret
    exact ⟨rfl, rfl⟩
  | false =>
    rw [hb] at HS
    clear hb
    go_enter Tryz.func72, Tryz.ntmps72
    go_wp2_with fail
    refine (HS.out _).mono ?_
    rintro e w1 ⟨rfl, rfl⟩
    go_wp2
    go_ret
    exact ⟨rfl, rfl⟩
end Go.Proofs.YtdnackjakfiffaaGreatDoor.Text

/-
  An iterator over a string in any block.
-/
namespace Go.Proofs.YtdnackjakfiffaaGreatDoor.Text
open Go Go.RowKit
open Tx

/-- the iterator in block k stands at p -/
def setIter (w : World) (k : Nat) (s : ByteArray) (p : Nat) : World := { w with heap := w.heap.setIfInBounds k (.stringIter s p) }
theorem iter_at (w : World) (k : Nat) (s : ByteArray) (p : Nat) (o : Obj) (h : w.heap[k]? = some o) : (setIter w k s p).heap[k]? = some (.stringIter s p) := by
  obtain ⟨h1, _⟩ := Array.getElem?_eq_some_iff.1 h
  show (w.heap.setIfInBounds k _)[k]? = _
  rw [Array.getElem?_setIfInBounds_self_of_lt h1]
theorem run_next_at {P : Program} (w : World) (k : Nat) (s : ByteArray) (pos : Nat) (ty : TypeId) (hk : w.heap[k]? = some (.stringIter s pos)) (h : pos < s.size) :
    (Instr.next (.pointer (some ⟨k, 0, none⟩)) true ty).run P w = .ok (.tuple #[.bool true, .int .i64 pos, .int .i32 (Utf8.decode s pos).1]) (setIter w k s (pos + (Utf8.decode s pos).2)) := by
  simp only [Instr.next, getObj, setObj, Sem.run_bind, Sem.run, hk, Result.andThen, h, if_true]
  simp [goInt, setIter]
theorem run_next_over {P : Program} (w : World) (k : Nat) (s : ByteArray) (pos : Nat) (ty : TypeId) (hk : w.heap[k]? = some (.stringIter s pos)) (h : ¬ pos < s.size) :
    (Instr.next (.pointer (some ⟨k, 0, none⟩)) true ty).run P w = .ok (.tuple #[.bool false]) w := by
  simp [Instr.next, getObj, Sem.run, hk, h]
theorem below_iter {w wr : World} (h : Below w.heap.size w wr) (k : Nat) (hk : w.heap.size ≤ k) (s : ByteArray) (p : Nat) : Below w.heap.size w (setIter wr k s p) := by
  refine ⟨h.os, h.tape, h.output, ?_, fun j hj => ?_⟩
  · show w.heap.size ≤ (wr.heap.setIfInBounds k _).size
    rw [Array.size_setIfInBounds]
    exact h.size
  · show (wr.heap.setIfInBounds k _)[j]? = _
    rw [Array.getElem?_setIfInBounds_ne (by omega)]
    exact h.block j hj
theorem iter_pos {w : World} {k : Nat} {s : ByteArray} {p : Nat} (h : w.heap[k]? = some (.stringIter s p)) : w.iterPos k = p := by
  unfold World.iterPos
  rw [h]
theorem info_parts3 {P : Program} {t : TypeId} {z : Value} {a b : Nat} (h : (P.info? t).map (fun i => (i.zero, i.size, i.bytes)) = some (some z, a, b)) : ∃ i, P.info? t = some i ∧ i.zero = some z ∧ i.size = a ∧ i.bytes = b := by
  cases hq : P.info? t with
  | none => rw [hq] at h; simp at h
  | some i =>
    rw [hq] at h
    simp at h
    exact ⟨i, rfl, h.1, h.2.1, h.2.2⟩
end Go.Proofs.YtdnackjakfiffaaGreatDoor.Text

/-
  Package text: the answer of Name.
-/
namespace Go.Proofs.YtdnackjakfiffaaGreatDoor.Text
open Go Go.RowKit
open Tx

namespace Tx
/-- Name from the n-th rune on, at p -/
def nmE (s : ByteArray) (n p : Nat) : Int × Int :=
  if _h : p < s.size then
    (if 48 ≤ n then (23, (p : Int))
     else if stray s p then (21, (p : Int))
     else if (p = 0 ∧ among lets ((Utf8.decode s p).1 : Int) = false) ∨ nmR ((Utf8.decode s p).1 : Int) = false then (22, (p : Int))
     else nmE s (n + 1) (p + (Utf8.decode s p).2))
  else (0, 0)
termination_by s.size - p
decreasing_by
  have := decode_fits s p (by assumption)
  omega
theorem nmE_out (s : ByteArray) (n p : Nat) (h : ¬ p < s.size) : nmE s n p = (0, 0) := by rw [nmE, dif_neg h]
theorem nmE_long (s : ByteArray) (n p : Nat) (h : p < s.size) (hn : 48 ≤ n) : nmE s n p = (23, (p : Int)) := by rw [nmE, dif_pos h, if_pos hn]
theorem nmE_stray (s : ByteArray) (n p : Nat) (h : p < s.size) (hn : ¬ 48 ≤ n) (hs : stray s p = true) : nmE s n p = (21, (p : Int)) := by rw [nmE, dif_pos h, if_neg hn, if_pos hs]
theorem nmE_bad (s : ByteArray) (n p : Nat) (h : p < s.size) (hn : ¬ 48 ≤ n) (hs : stray s p = false) (hb : (p = 0 ∧ among lets ((Utf8.decode s p).1 : Int) = false) ∨ nmR ((Utf8.decode s p).1 : Int) = false) : nmE s n p = (22, (p : Int)) := by
  rw [nmE, dif_pos h, if_neg hn, if_neg (by simp [hs]), if_pos hb]
theorem nmE_step (s : ByteArray) (n p : Nat) (h : p < s.size) (hn : ¬ 48 ≤ n) (hs : stray s p = false) (hb : ¬ ((p = 0 ∧ among lets ((Utf8.decode s p).1 : Int) = false) ∨ nmR ((Utf8.decode s p).1 : Int) = false)) : nmE s n p = nmE s (n + 1) (p + (Utf8.decode s p).2) := by
  rw [nmE, dif_pos h, if_neg hn, if_neg (by simp [hs]), if_neg hb]
theorem stray_rune (s : ByteArray) (p : Nat) (h : stray s p = true) : (Utf8.decode s p).1 = 65533 := by
  rw [stray_eq] at h
  simp at h
  exact h.1
theorem nmR_no : nmR 65533 = false := by decide +kernel
/-- the answer of Name -/
def nmA (s : ByteArray) : Int × Int := if s.size = 0 then (20, 0) else nmE s 0 0
end Tx
end Go.Proofs.YtdnackjakfiffaaGreatDoor.Text

/-
  Package text: Name; the reference's Name.
-/
namespace Go.Proofs.YtdnackjakfiffaaGreatDoor.Text
open Go Go.RowKit
open Tx

set_option maxRecDepth 100000 in
set_option maxHeartbeats 2000000 in
theorem name_any (s : ByteArray) (w : World) (hs : s.size ≤ 140737488355000) (hT : TabP 2 .i32 lets w) :
    Calls Tryz.prog 52 #[.string s] w fun e w' => e = .returned (.tuple #[.int .i64 (nmA s).1, .int .i64 (nmA s).2]) ∧ Below w.heap.size w w' := by
  have HT : Hid (∀ w', Below w.heap.size w w' → TabP 2 .i32 lets w') := fun w' hb => hT.kept hb
  clear hT
  by_cases h0 : s.size = 0
  · have e0 : s = ⟨#[]⟩ := by
      apply ByteArray.ext
      exact Array.eq_empty_of_size_eq_zero h0
    subst e0
    have HE : Hid (nmA ⟨#[]⟩ = (20, 0)) := by show _ = _; unfold nmA; rw [if_pos h0]
    rw [HE.out]
    go_enter Tryz.func52, Tryz.ntmps52
    go_wp2
    go_ret2
    exact ⟨rfl, Below.refl _ _⟩
  · obtain ⟨A, hA⟩ : ∃ A, nmA s = A := ⟨_, rfl⟩
    have HA : Hid (nmE s 0 0 = A) := by show _ = _; rw [← hA]; unfold nmA; rw [if_neg h0]
    rw [hA]
    clear hA
    have hne : (s.toList == []) = false := by
      have := toList_len s
      cases hl : s.toList with
      | nil => rw [hl] at this; simp at this; omega
      | cons a b => rfl
    have HI : Hid ((w.iter s 0).heap[w.heap.size]? = some (.stringIter s 0)) := World.iter_heap w s 0
    have HB : Hid (Below w.heap.size w (w.iter s 0)) := up_iter w s 0
    go_enter Tryz.func52, Tryz.ntmps52
    go_wp2
    go_loopw [4] (fun c wr => ∃ (n p : Nat), c = .int .i64 (n : Int) ∧ n ≤ 48 ∧ p ≤ s.size ∧ nmE s n p = A ∧ wr.heap[w.heap.size]? = some (.stringIter s p) ∧ Below w.heap.size w wr) (fun _ wr => s.size - wr.iterPos w.heap.size)
    case atStart => exact ⟨0, 0, rfl, by omega, Nat.zero_le _, HA.out, HI.out, HB.out⟩
    case round =>
      obtain ⟨n, p, rfl, hn, hp, ha, hit, hbel⟩ := hrel
      have HAA : Hid (nmE s n p = A) := ha
      have HIT : Hid (wr.heap[w.heap.size]? = some (.stringIter s p)) := hit
      have HPOS : Hid (wr.iterPos w.heap.size = p) := iter_pos hit
      clear ha HA HI HB
      by_cases hlt : p < s.size
      · have hd := decode_fits s p hlt
        have hnx : ∀ ty, (Instr.next (.pointer (some ⟨w.heap.size, 0, none⟩)) true ty).run Tryz.prog wr = _ := fun ty => run_next_at wr w.heap.size s p ty hit hlt
        have HI2 : Hid ((setIter wr w.heap.size s (p + (Utf8.decode s p).2)).heap[w.heap.size]? = some (.stringIter s (p + (Utf8.decode s p).2))) := iter_at wr w.heap.size s _ _ hit
        have hB2 : Below w.heap.size w (setIter wr w.heap.size s (p + (Utf8.decode s p).2)) := below_iter hbel _ (Nat.le_refl _) s _
        clear hbel hit
        generalize setIter wr w.heap.size s (p + (Utf8.decode s p).2) = w2 at *
        by_cases h48 : n = 48
        · subst h48
          have HF : Hid (A = (23, (p : Int))) := by show _ = _; rw [← HAA.out, nmE_long s 48 p hlt (by omega)]
          go_wp2
          go_ret2
          rw [HF.out]
          exact ⟨rfl, hB2⟩
        · have hn48 : ¬ 48 ≤ n := by omega
          have HO : Hid (∀ w', Calls Tryz.prog 72 #[.string s, .int .i64 (p : Int), .int .i32 ((Utf8.decode s p).1 : Int)] w' fun e w'' => e = .returned (.int .i64 (if stray s p then 21 else 22)) ∧ w'' = w') := fun w' => odd_any s p w' hlt
          have HBAD : Hid ((p = 0 ∧ among lets ((Utf8.decode s p).1 : Int) = false) ∨ nmR ((Utf8.decode s p).1 : Int) = false → A = ((if stray s p then 21 else 22), (p : Int))) := fun hb => by
            cases hst : stray s p with
            | true => rw [← HAA.out, nmE_stray s n p hlt hn48 hst]; rfl
            | false => rw [← HAA.out, nmE_bad s n p hlt hn48 hst hb]; rfl
          have HGOOD : Hid (¬ ((p = 0 ∧ among lets ((Utf8.decode s p).1 : Int) = false) ∨ nmR ((Utf8.decode s p).1 : Int) = false) → nmE s (n + 1) (p + (Utf8.decode s p).2) = A) := fun hb => by
            cases hst : stray s p with
            | true =>
              exfalso
              apply hb
              right
              rw [stray_rune s p hst]
              exact nmR_no
            | false => rw [← HAA.out, nmE_step s n p hlt hn48 hst hb]
          have hr1 := decode_le s p
          generalize (if stray s p then (21 : Int) else 22) = er at *
          obtain ⟨r, hr⟩ : ∃ r : Nat, (Utf8.decode s p).1 = r := ⟨_, rfl⟩
          rw [hr] at hnx HO HBAD HGOOD hr1
          clear hr HAA
          cases hnm : nmR (r : Int) with
          | false =>
            have HF : Hid (A = (er, (p : Int))) := HBAD.out (.inr hnm)
            have HNM : Hid (nmR (r : Int) = false) := hnm
            clear HBAD HGOOD hnm
            go_wp2_with fail
            refine (namer_any _ _ (HT.out _ hB2)).mono ?_
            rw [HNM.out]
            rintro e w3 ⟨rfl, b3⟩
            have hB3 := andThen hB2 b3
            clear b3
            go_wp2_with fail
            refine (HO.out _).mono ?_
            rintro e w4 ⟨rfl, rfl⟩
            go_wp2
            go_ret2
            rw [HF.out]
            exact ⟨rfl, hB3⟩
          | true =>
            have HNM : Hid (nmR (r : Int) = true) := hnm
            by_cases hp0 : p = 0
            · cases hal : among lets (r : Int) with
              | false =>
                have HF : Hid (A = (er, 0)) := by
                  have := HBAD.out (.inl ⟨hp0, hal⟩)
                  rw [hp0] at this
                  exact this
                have HO0 : Hid (∀ w', Calls Tryz.prog 72 #[.string s, .int .i64 0, .int .i32 (r : Int)] w' fun e w'' => e = .returned (.int .i64 er) ∧ w'' = w') := by
                  have := HO.out
                  rw [hp0] at this
                  exact this
                have HAL : Hid (among lets (r : Int) = false) := hal
                clear HBAD HGOOD hnm hal
                go_wp2_with fail
                refine (namer_any _ _ (HT.out _ hB2)).mono ?_
                rw [HNM.out]
                rintro e w3 ⟨rfl, b3⟩
                have hB3 := andThen hB2 b3
                clear b3
                go_wp2_with fail
                refine (letter_any _ _ (HT.out _ hB3)).mono ?_
                rw [HAL.out]
                rintro e w4 ⟨rfl, b4⟩
                have hB4 := andThen hB3 b4
                clear b4
                go_wp2_with fail
                refine (HO0.out _).mono ?_
                rintro e w5 ⟨rfl, rfl⟩
                go_wp2
                go_ret2
                rw [HF.out]
                exact ⟨rfl, hB4⟩
              | true =>
                have HF : Hid (nmE s (n + 1) (p + (Utf8.decode s p).2) = A) := HGOOD.out (by simp [hnm, hal])
                have HAL : Hid (among lets (r : Int) = true) := hal
                clear HBAD HGOOD hnm hal
                go_wp2_with fail
                refine (namer_any _ _ (HT.out _ hB2)).mono ?_
                rw [HNM.out]
                rintro e w3 ⟨rfl, b3⟩
                have hB3 := andThen hB2 b3
                have HI3 : Hid (w3.heap[w.heap.size]? = some (.stringIter s (p + (Utf8.decode s p).2))) := (b3.block w.heap.size (Array.getElem?_eq_some_iff.1 HI2.out).1).trans HI2.out
                clear b3
                go_wp2_with fail
                refine (letter_any _ _ (HT.out _ hB3)).mono ?_
                rw [HAL.out]
                rintro e w4 ⟨rfl, b4⟩
                have hB4 := andThen hB3 b4
                have HI4 : Hid (w4.heap[w.heap.size]? = some (.stringIter s (p + (Utf8.decode s p).2))) := (b4.block w.heap.size (Array.getElem?_eq_some_iff.1 HI3.out).1).trans HI3.out
                have HPS : Hid (w4.iterPos w.heap.size = p + (Utf8.decode s p).2) := iter_pos HI4.out
                clear b4
                go_wp2
                go_roundw
                case rel => exact ⟨n + 1, _, by go_num, by omega, hd.2.1, HF.out, HI4.out, hB4⟩
                case measure => rw [HPS.out, HPOS.out]; omega
            · have HF : Hid (nmE s (n + 1) (p + (Utf8.decode s p).2) = A) := HGOOD.out (by simp [hnm, hp0])
              clear HBAD HGOOD hnm
              go_wp2_with fail
              refine (namer_any _ _ (HT.out _ hB2)).mono ?_
              rw [HNM.out]
              rintro e w3 ⟨rfl, b3⟩
              have hB3 := andThen hB2 b3
              have HI3 : Hid (w3.heap[w.heap.size]? = some (.stringIter s (p + (Utf8.decode s p).2))) := (b3.block w.heap.size (Array.getElem?_eq_some_iff.1 HI2.out).1).trans HI2.out
              have HPS : Hid (w3.iterPos w.heap.size = p + (Utf8.decode s p).2) := iter_pos HI3.out
              clear b3
              go_wp2
              go_roundw
              case rel => exact ⟨n + 1, _, by go_num, by omega, hd.2.1, HF.out, HI3.out, hB3⟩
              case measure => rw [HPS.out, HPOS.out]; omega
      · have hnx : ∀ ty, (Instr.next (.pointer (some ⟨w.heap.size, 0, none⟩)) true ty).run Tryz.prog wr = _ := fun ty => run_next_over wr w.heap.size s p ty hit hlt
        have HF : Hid (A = (0, 0)) := by show _ = _; rw [← HAA.out, nmE_out s n p hlt]
        clear hit
        go_wp2
        go_ret2
        rw [HF.out]
        exact ⟨rfl, hbel⟩
end Go.Proofs.YtdnackjakfiffaaGreatDoor.Text
