/-
  The library: utf8.AppendRune. Package text: escapedByte.
-/
import Derived.Test.YtbabckchfabbkaaDoorLib1
namespace Go.Proofs.YtbabckchfabbkaaDoor
open Go Go.RowKit Go.Lib
open Tx

theorem enc1 (r : Nat) (h : r < 128) : (Utf8.encode (r : Int)).data.toList = [UInt8.ofNat r] := by
  have hv : Utf8.valid (r : Int) = true := by simp [Utf8.valid]; omega
  unfold Utf8.encode
  simp only [hv, if_true, Int.toNat_natCast]
  rw [if_pos (by omega)]
theorem bc1 (x : Nat) (hx : x < 256) : bc [UInt8.ofNat x] = [Value.int .u8 (x : Int)] := by
  simp [bc, Nat.mod_eq_of_lt hx]
set_option maxRecDepth 100000 in
theorem appRune_any (r : Nat) (B : Nat) (v : Value) (l : List UInt8) (w : World) (hv : Utf8.valid (r : Int) = true) (hro : Ro B w v l) (hl : l.length ≤ 100000000) (hB : B ≤ w.heap.size) :
    Calls Tryd.prog 53 #[v, .int .i32 (r : Int)] w fun e w' => ∃ v', e = .returned v' ∧ Ro B w' v' (l ++ (Utf8.encode (r : Int)).data.toList) ∧ w.grownBy w' v.ownBlock := by
  have hv2 : r ≤ 1114111 ∧ (r < 55296 ∨ 57343 < r) := by
    simp [Utf8.valid] at hv
    omega
  by_cases h1 : r < 128
  · have hin := info5q
    obtain ⟨ao, cap, rfl⟩ := hro.shape
    rw [enc1 r h1]
    obtain ⟨x, hx⟩ : ∃ x : Int, (r : Int) = x := ⟨_, rfl⟩
    rw [hx]
    obtain ⟨m, hm⟩ : ∃ m : List UInt8, [UInt8.ofNat r] = m := ⟨_, rfl⟩
    have hml : m.length = 1 := by rw [← hm]; rfl
    have HB : Hid (bc m = [Value.int .u8 x]) := by
      show _ = _
      rw [← hm, bc1 r (by omega), hx]
    rw [hm]
    clear hm
    have h0i : 0 ≤ x := by omega
    have h1i : x ≤ 127 := by omega
    have HRO : Hid (∀ o, Ro B (w.alloc o) (.slice ao l.length cap) l) := fun o => hro.kept (up0 _ _)
    have HL : Hid (m.length = 1) := hml
    clear hro hml h1 hx hv hv2
    go_enter Tryd.func53, Tryd.ntmps53
    go_wp2_with (at_builtin; refine wpList_app_new _ rfl (.tmp 8) (.tmp 11) 66 rfl B hin Tryd.underlying66 _ l rfl (HRO.out _) _ 1 m rfl HL.out.symm (new_cells w _ _ (by rw [HB.out]) _) hl (by have := HL.out; omega) (by simp; omega) ?_)
    intro v6 w6 hr6 hg6
    have HR : Hid (Ro B w6 v6 (l ++ m) ∧ w.grownBy w6 (Value.slice ao l.length cap).ownBlock) := ⟨hr6, grown_alloc hg6⟩
    obtain ⟨ao6, cap6, rfl⟩ := hr6.shape
    clear hr6 hg6 HRO
    go_wp2
    go_ret
    exact ⟨_, rfl, HR.out.1, HR.out.2⟩
  · have HC : Hid (Calls Tryd.prog 70 #[v, .int .i32 (r : Int)] w fun e w' => ∃ v', e = .returned v' ∧ Ro B w' v' (l ++ (Utf8.encode (r : Int)).data.toList) ∧ w.grownBy w' v.ownBlock) := by
      show Calls _ _ _ _ _
      by_cases h2 : r ≤ 2047
      · exact appNon2 r B v l w (by omega) h2 hro hl hB
      by_cases h3 : r ≤ 65535
      · exact appNon3 r B v l w (by omega) h3 hv hv2.2 hro hl hB
      · exact appNon4 r B v l w (by omega) hv2.1 hv hro hl hB
    obtain ⟨x, hx⟩ : ∃ x : Int, (r : Int) = x := ⟨_, rfl⟩
    rw [hx] at HC ⊢
    have h0i : 128 ≤ x := by omega
    have h1i : x ≤ 1114111 := by omega
    obtain ⟨ao, cap, rfl⟩ := hro.shape
    clear hro hl hB hx hv hv2 h1
    go_enter Tryd.func53, Tryd.ntmps53
    go_wp2_with fail
    refine (HC.out).mono ?_
    rintro e w1 ⟨v1, rfl, h2, h3⟩
    have HR : Hid (Ro B w1 v1 (l ++ (Utf8.encode x).data.toList) ∧ w.grownBy w1 (Value.slice ao l.length cap).ownBlock) := ⟨h2, h3⟩
    obtain ⟨ao6, cap6, hsh⟩ := h2.shape
    obtain ⟨n6, hn6⟩ : ∃ n, (l ++ (Utf8.encode x).data.toList).length = n := ⟨_, rfl⟩
    rw [hn6] at hsh
    subst hsh
    clear h2 h3 HC hn6
    go_wp2
    go_ret
    exact ⟨_, rfl, HR.out.1, HR.out.2⟩

namespace Tx
/-- the digits of text.hexDigits -/
def hxs : ByteArray := ⟨#[48, 49, 50, 51, 52, 53, 54, 55, 56, 57, 97, 98, 99, 100, 101, 102]⟩
/-- a hexadecimal digit's value -/
def hv (c : Nat) : Option Nat := if 48 ≤ c ∧ c ≤ 57 then some (c - 48) else if 97 ≤ c ∧ c ≤ 102 then some (c - 87) else none
end Tx
theorem hv_lt {c n : Nat} (h : hv c = some n) : n < 16 := by
  unfold hv at h
  split at h
  · simp at h; omega
  · split at h
    · simp at h; omega
    · simp at h
theorem idx_hxs (c : Nat) (h : c < 256) : firstIdx hxs c.toUInt8 = ((hv c).map (fun n => (n : Int))).getD (-1) := by
  have key : ∀ c, c < 256 → firstIdx hxs c.toUInt8 = ((hv c).map (fun n => (n : Int))).getD (-1) := by decide +kernel
  exact key c h
/-- what escapedByte reads -/
def Tx.eb (s : ByteArray) : ByteArray × Nat :=
  if s.size < 4 then (⟨#[]⟩, 0) else
    match hv (at' s 2), hv (at' s 3) with
    | some a, some b => (⟨#[UInt8.ofNat (16 * a + b)]⟩, 4)
    | _, _ => (⟨#[]⟩, 0)
theorem shl4or (a b : Int) (h0 : 0 ≤ a) (h1 : a < 16) (h2 : 0 ≤ b) (h3 : b < 16) : bits .or .i64 (a * 16) b = a * 16 + b := by
  have key : ∀ a, a < 16 → ∀ b, b < 16 → bits .or .i64 (((a : Nat) : Int) * 16) ((b : Nat) : Int) = (a : Int) * 16 + (b : Int) := by decide +kernel
  have := key a.toNat (by omega) b.toNat (by omega)
  rwa [Int.toNat_of_nonneg h0, Int.toNat_of_nonneg h2] at this
theorem one_str (w : World) (g : Nat) (x : UInt8) (hc0 : w.cell? ⟨g, 0, none⟩ = some (.int .u8 (x.toNat : Int))) :
    (convert 66 9 (.slice (some ⟨g, 0, none⟩) 1 1)).run Tryd.prog w = .ok (.string ⟨#[x]⟩) w := by
  refine run_convert_bytes_back w 66 9 5 ⟨g, 0, none⟩ 1 [x] Tryd.underlying66 Tryd.underlying5 Tryd.underlying9 (fun j hj => ?_)
  match j, hj with
  | 0, _ => rw [Addr.add_lit]; exact hc0
set_option maxRecDepth 100000 in
theorem ebyte_any (s : ByteArray) (w : World) (hs : s.size ≤ 8000000) :
    Calls Tryd.prog 68 #[.string s] w fun e w' => e = .returned (.tuple #[.string (eb s).1, .int .i64 (eb s).2]) ∧ Below w.heap.size w w' := by
  by_cases h4 : s.size < 4
  · have HE : Hid (eb s = (⟨#[]⟩, 0)) := by show _ = _; unfold eb; rw [if_pos h4]
    rw [HE.out]
    go_enter Tryd.func68, Tryd.ntmps68
    go_wp2
    go_ret2
    exact ⟨rfl, Below.refl _ _⟩
  · have hl2 : 2 < s.size := by omega
    have hl3 : 3 < s.size := by omega
    obtain ⟨c, hc⟩ : ∃ c, (s[2]'hl2).toNat = c := ⟨_, rfl⟩
    obtain ⟨d, hd⟩ : ∃ c, (s[3]'hl3).toNat = c := ⟨_, rfl⟩
    have hc2 : at' s 2 = c := by rw [at_get s 2 hl2, hc]
    have hd2 : at' s 3 = d := by rw [at_get s 3 hl3, hd]
    have hcl : c < 256 := hc2 ▸ at_lt s 2
    have hdl : d < 256 := hd2 ▸ at_lt s 3
    have HC : Hid (∀ w', Calls Tryd.prog 78 #[.string hxs, .int .u8 (c : Int)] w' fun e w1 => e = .returned (.int .i64 (((hv c).map (fun n => (n : Int))).getD (-1))) ∧ w1 = w') := fun w' => idx_hxs c hcl ▸ indexByte_any hxs c w'
    have HD : Hid (∀ w', Calls Tryd.prog 78 #[.string hxs, .int .u8 (d : Int)] w' fun e w1 => e = .returned (.int .i64 (((hv d).map (fun n => (n : Int))).getD (-1))) ∧ w1 = w') := fun w' => idx_hxs d hdl ▸ indexByte_any hxs d w'
    cases hvc : hv c with
    | none =>
      have HE : Hid (eb s = (⟨#[]⟩, 0)) := by show _ = _; unfold eb; rw [if_neg h4, hc2, hvc]
      rw [HE.out]
      rw [hvc] at HC
      obtain ⟨y, hy⟩ : ∃ y : Int, ((hv d).map (fun n => (n : Int))).getD (-1) = y := ⟨_, rfl⟩
      rw [hy] at HD
      clear hc2 hd2 hy
      go_enter Tryd.func68, Tryd.ntmps68
      go_wp2_with fail
      refine (HC.out _).mono ?_
      rintro e w1 ⟨rfl, rfl⟩
      go_wp2_with fail
      refine (HD.out _).mono ?_
      rintro e w1 ⟨rfl, rfl⟩
      go_wp2
      go_ret2
      exact ⟨rfl, Below.refl _ _⟩
    | some a =>
      have ha := hv_lt hvc
      rw [hvc] at HC
      cases hvd : hv d with
      | none =>
        have HE : Hid (eb s = (⟨#[]⟩, 0)) := by show _ = _; unfold eb; rw [if_neg h4, hc2, hd2, hvc, hvd]
        rw [HE.out]
        rw [hvd] at HD
        clear hc2 hd2
        go_enter Tryd.func68, Tryd.ntmps68
        go_wp2_with fail
        refine (HC.out _).mono ?_
        rintro e w1 ⟨rfl, rfl⟩
        go_wp2_with fail
        refine (HD.out _).mono ?_
        rintro e w1 ⟨rfl, rfl⟩
        go_wp2
        go_ret2
        exact ⟨rfl, Below.refl _ _⟩
      | some b =>
        have hb := hv_lt hvd
        have HE : Hid (eb s = (⟨#[UInt8.ofNat (16 * a + b)]⟩, 4)) := by show _ = _; unfold eb; rw [if_neg h4, hc2, hd2, hvc, hvd]
        rw [HE.out]
        rw [hvd] at HD
        obtain ⟨x, hx⟩ : ∃ x : Int, (a : Int) = x := ⟨_, rfl⟩
        obtain ⟨y, hy⟩ : ∃ y : Int, (b : Int) = y := ⟨_, rfl⟩
        obtain ⟨z, hz⟩ : ∃ z, UInt8.ofNat (16 * a + b) = z := ⟨_, rfl⟩
        have hzn : (z.toNat : Int) = x * 16 + y := by
          rw [← hz, UInt8.toNat_ofNat_of_lt' (show 16 * a + b < 256 by omega)]
          omega
        rw [hz]
        have hx0 : 0 ≤ x := by omega
        have hx1 : x < 16 := by omega
        have hy0 : 0 ≤ y := by omega
        have hy1 : y < 16 := by omega
        have q1 := shl4or x y hx0 hx1 hy0 hy1
        obtain ⟨t, ht⟩ : ∃ t, x * 16 + y = t := ⟨_, rfl⟩
        rw [ht] at q1 hzn
        have ht0 : 0 ≤ t := by omega
        have ht1 : t < 256 := by omega
        have HC1 : Hid (∀ w', Calls Tryd.prog 78 #[.string hxs, .int .u8 (c : Int)] w' fun e w1 => e = .returned (.int .i64 x) ∧ w1 = w') := hx ▸ HC
        have HD1 : Hid (∀ w', Calls Tryd.prog 78 #[.string hxs, .int .u8 (d : Int)] w' fun e w1 => e = .returned (.int .i64 y) ∧ w1 = w') := hy ▸ HD
        have hcw := one_str (w.alloc (.cells #[.int .u8 t] 5)) w.heap.size z (by rw [World.cell?_alloc_new w _ _ 0, hzn]; rfl)
        clear hc2 hd2 ht hx hy hz hzn HC HD ha hb hvc hvd HE
        go_enter Tryd.func68, Tryd.ntmps68
        go_wp2_with fail
        refine (HC1.out _).mono ?_
        rintro e w1 ⟨rfl, rfl⟩
        go_wp2_with fail
        refine (HD1.out _).mono ?_
        rintro e w1 ⟨rfl, rfl⟩
        go_wp2
        go_ret2
        exact ⟨rfl, up0 _ _⟩
end Go.Proofs.YtbabckchfabbkaaDoor
