import Derived.Test.YtneifdbcjicfgaaDoorQS
import Derived.Test.YtneifdbcjicfgaaDoorQR
import Derived.Test.YtneifdbcjicfgaaDoorQL
import Derived.Test.YtneifdbcjicfgaaDoorQP
/-
  TextLine: gap, at, decimal.
-/
namespace Go.Proofs.YtneifdbcjicfgaaDoor
open Go Go.RowKit
open Tx

theorem gap9 : Gap ⟨#[9]⟩ := ⟨by decide, by decide +kernel⟩
theorem gap393 : Gap ⟨#[32, 9, 32]⟩ := ⟨by decide, by decide +kernel⟩
theorem gap333 : Gap ⟨#[32, 32, 32]⟩ := ⟨by decide, by decide +kernel⟩
theorem gap3 : Gap ⟨#[32]⟩ := ⟨by decide, by decide +kernel⟩
set_option maxRecDepth 100000 in
set_option maxHeartbeats 4000000 in
theorem gap_any (g : Int) (w : World) :
    Calls Tryd.prog 7 #[.int .i64 g] w fun e w' => ∃ b, e = .returned (.string b) ∧ Gap b ∧ b.size ≤ 3 ∧ w' = w := by
  obtain ⟨r, hr⟩ : ∃ r, Int.tmod g 4 = r := ⟨_, rfl⟩
  have h1 : -3 ≤ r ∧ r ≤ 3 := by
    rw [Int.tmod_eq_emod] at hr
    split at hr <;> omega
  go_enter Tryd.func7, Tryd.ntmps7
  rcases (show r = -3 ∨ r = -2 ∨ r = -1 ∨ r = 0 ∨ r = 1 ∨ r = 2 ∨ r = 3 by omega) with rfl | rfl | rfl | rfl | rfl | rfl | rfl
  · go_wp2
    go_ret
    exact ⟨_, rfl, gap333, by decide, rfl⟩
  · go_wp2
    go_ret
    exact ⟨_, rfl, gap393, by decide, rfl⟩
  · go_wp2
    go_ret
    exact ⟨_, rfl, gap9, by decide, rfl⟩
  · go_wp2
    go_ret
    exact ⟨_, rfl, gap3, by decide, rfl⟩
  · go_wp2
    go_ret
    exact ⟨_, rfl, gap9, by decide, rfl⟩
  · go_wp2
    go_ret
    exact ⟨_, rfl, gap393, by decide, rfl⟩
  · go_wp2
    go_ret
    exact ⟨_, rfl, gap333, by decide, rfl⟩
set_option maxRecDepth 100000 in
set_option maxHeartbeats 4000000 in
theorem at_any (s : ByteArray) (k : Int) (w : World) (hk : -9223372036854775808 ≤ k ∧ k ≤ 9223372036854775807) (hs : s.size ≤ 2000000) (h0 : 0 < s.size) :
    Calls Tryd.prog 25 #[.string s, .int .i64 k] w fun e w' => ∃ j, ∃ hj : j < (pcs s 0).length, e = .returned (.string (s.extract (pcs s 0)[j] ((pcs s 0)[j] + (Utf8.decode s (pcs s 0)[j]).2))) ∧ Below w.heap.size w w' := by
  have hz : 0 < (pcs s 0).length := by rw [pcs_in s 0 h0]; simp
  have hRl : (pcs s 0).length ≤ 2000000 := by
    have := pcs_len s s.size 0 (by omega)
    omega
  have HPB : Hid (∀ j (hj : j < (pcs s 0).length), (pcs s 0)[j] + (Utf8.decode s (pcs s 0)[j]).2 ≤ s.size) := fun j hj => (decode_fits s _ (pcs_in_range s s.size 0 (by omega) _ (List.getElem_mem hj))).2.1
  have HP : Hid (Calls Tryd.prog 41 #[.string s] w fun e w' => ∃ v, e = .returned v ∧ Pcs w.heap.size w' v s (pcs s 0) ∧ Below w.heap.size w w') := pieces_any s w hs
  generalize pcs s 0 = R at *
  go_enter Tryd.func25, Tryd.ntmps25
  go_wp2_with fail
  refine HP.out.mono ?_
  rintro e w1 ⟨v1, rfl, ho1, b1⟩
  obtain ⟨ao, cap, rfl, hcap, hao, hcell⟩ := ho1.shape
  clear HP ho1
  obtain ⟨K, hK⟩ : ∃ K : Nat, (if k < 0 then -(k + 1) else k) = (K : Int) := ⟨(if k < 0 then -(k + 1) else k).toNat, by split <;> omega⟩
  have hKb : K ≤ 9223372036854775807 := by split at hK <;> omega
  have hj : K % R.length < R.length := Nat.mod_lt _ hz
  obtain ⟨g, rfl⟩ := hao (K % R.length) hj
  obtain ⟨d0, d1, d2⟩ := hcell g rfl (K % R.length) hj
  have hfit := HPB.out (K % R.length) hj
  have HR : Hid (∃ j, ∃ hj : j < R.length, s.extract R[K % R.length] (R[K % R.length] + (Utf8.decode s R[K % R.length]).2) = s.extract R[j] (R[j] + (Utf8.decode s R[j]).2)) := ⟨K % R.length, hj, rfl⟩
  have HB : Hid (Below w.heap.size w w1) := b1
  clear hao hcell HPB b1 hcap
  generalize (Utf8.decode s R[K % R.length]).2 = f2 at *
  generalize pcR s R[K % R.length] = f0 at *
  generalize R[K % R.length] = f1 at *
  by_cases hneg : k < 0
  · rw [if_pos hneg] at hK
    go_wp2
    go_ret
    obtain ⟨j, hj, e⟩ := HR.out
    exact ⟨j, hj, congrArg (fun z => Ending.returned (Value.string z)) e, up HB.out _⟩
  · rw [if_neg hneg] at hK
    subst hK
    go_wp2
    go_ret
    obtain ⟨j, hj, e⟩ := HR.out
    exact ⟨j, hj, congrArg (fun z => Ending.returned (Value.string z)) e, up HB.out _⟩
def Tx.firstsT : ByteArray := ⟨#[97, 98, 122, 65, 66, 90, 195, 169, 197, 191, 206, 177, 208, 182, 215, 144, 228, 184, 173, 234, 176, 128, 240, 144, 144, 128, 240, 160, 128, 128]⟩
def Tx.firstsR : List Nat := [97, 98, 122, 65, 66, 90, 233, 383, 945, 1078, 1488, 20013, 44032, 66560, 131072]
def Tx.othersT : ByteArray := ⟨#[48, 49, 56, 57, 45, 95, 46, 97, 98, 122, 65, 66, 90, 195, 169, 197, 191, 206, 177, 208, 182, 215, 144, 228, 184, 173, 234, 176, 128, 240, 144, 144, 128, 240, 160, 128, 128]⟩
def Tx.othersR : List Nat := [48, 49, 56, 57, 45, 95, 46, 97, 98, 122, 65, 66, 90, 233, 383, 945, 1078, 1488, 20013, 44032, 66560, 131072]
set_option maxRecDepth 100000 in
theorem firsts_all : ∀ q ∈ pcs firstsT 0, ∃ r ∈ firstsR, (firstsT.extract q (q + (Utf8.decode firstsT q).2)).data.toList = (Utf8.encode (r : Int)).data.toList ∧ Utf8.valid (r : Int) = true ∧ among lets (r : Int) = true := by decide +kernel
set_option maxRecDepth 100000 in
theorem others_all : ∀ q ∈ pcs othersT 0, ∃ r ∈ othersR, (othersT.extract q (q + (Utf8.decode othersT q).2)).data.toList = (Utf8.encode (r : Int)).data.toList ∧ Utf8.valid (r : Int) = true ∧ nmR (r : Int) = true := by decide +kernel
set_option maxRecDepth 100000 in
theorem signs_all : ∀ q ∈ pcs sgs 0, ∃ c ∈ sgnL, (sgs.extract q (q + (Utf8.decode sgs q).2)).data.toList = [UInt8.ofNat c] := by decide +kernel
theorem ba_eq {a b : ByteArray} (h : a.data.toList = b.data.toList) : a = b := by
  apply toList_inj
  rw [ByteArray.toList_eq, ByteArray.toList_eq]
  exact h
theorem atF_any (k : Int) (w : World) (hk : -9223372036854775808 ≤ k ∧ k ≤ 9223372036854775807) :
    Calls Tryd.prog 25 #[.string firstsT, .int .i64 k] w fun e w' => ∃ t, e = .returned (.string t) ∧ NmT t 1 ∧ t.size ≤ 4 ∧ Below w.heap.size w w' :=
  (at_any firstsT k w hk (by decide) (by decide)).mono fun e w' ⟨j, hj, he, hb⟩ => by
    obtain ⟨r, _, h1, h2, h3⟩ := firsts_all _ (List.getElem_mem hj)
    refine ⟨_, he, ?_, ?_, hb⟩
    · rw [ba_eq h1]
      exact nm_one r h2 h3
    · rw [ba_eq h1]
      exact encode_le _
theorem atO_any (k : Int) (w : World) (hk : -9223372036854775808 ≤ k ∧ k ≤ 9223372036854775807) :
    Calls Tryd.prog 25 #[.string othersT, .int .i64 k] w fun e w' => ∃ t, e = .returned (.string t) ∧ (∀ (u : ByteArray) (m : Nat), NmT u m → m < 48 → NmT (u ++ t) (m + 1)) ∧ t.size ≤ 4 ∧ Below w.heap.size w w' :=
  (at_any othersT k w hk (by decide) (by decide)).mono fun e w' ⟨j, hj, he, hb⟩ => by
    obtain ⟨r, _, h1, h2, h3⟩ := others_all _ (List.getElem_mem hj)
    refine ⟨_, he, fun u m hu hm => ?_, ?_, hb⟩
    · rw [ba_eq h1]
      exact nm_more hu hm r h2 h3
    · rw [ba_eq h1]
      exact encode_le _
theorem atS_any (k : Int) (w : World) (hk : -9223372036854775808 ≤ k ∧ k ≤ 9223372036854775807) :
    Calls Tryd.prog 25 #[.string sgs, .int .i64 k] w fun e w' => ∃ t, e = .returned (.string t) ∧ Okw t 4 t 0 ∧ t.size ≤ 4 ∧ Below w.heap.size w w' :=
  (at_any sgs k w hk (by decide) (by decide)).mono fun e w' ⟨j, hj, he, hb⟩ => by
    obtain ⟨c, hc, h1⟩ := signs_all _ (List.getElem_mem hj)
    have h2 : sgs.extract (pcs sgs 0)[j] ((pcs sgs 0)[j] + (Utf8.decode sgs (pcs sgs 0)[j]).2) = ⟨#[UInt8.ofNat c]⟩ := ba_eq h1
    refine ⟨_, he, ?_, ?_, hb⟩
    · rw [h2]
      exact okw_sign c hc
    · rw [h2]
      show (1 : Nat) ≤ 4
      decide
end Go.Proofs.YtneifdbcjicfgaaDoor

/-
  TextLine: decimal.
-/
namespace Go.Proofs.YtneifdbcjicfgaaDoor
open Go Go.RowKit
open Tx

theorem dec_str (w : World) (t : TypeId) (b : UInt8) : (convert 72 9 (.slice (some ⟨w.heap.size, 0, none⟩) 1 1)).run Tryd.prog (w.alloc (.cells #[.int .u8 (b.toNat : Int)] t)) = .ok (.string ⟨#[b]⟩) (w.alloc (.cells #[.int .u8 (b.toNat : Int)] t)) :=
  run_convert_bytes_back _ 72 9 5 ⟨w.heap.size, 0, none⟩ 1 [b] Tryd.underlying72 Tryd.underlying5 Tryd.underlying9 (fun j hj => by
    rw [Addr.add_lit, Nat.zero_add, World.cell?_alloc_new]
    obtain rfl : j = 0 := by simpa using hj
    rfl)
theorem dig_u8 (q : Nat) : (((48 + q % 10 : Nat) : Int)) = ((UInt8.ofNat (48 + q % 10)).toNat : Int) := by
  rw [UInt8.toNat_ofNat_of_lt' (show 48 + q % 10 < 256 by omega)]
theorem dec_str10 (w : World) (t : TypeId) (q : Nat) : (convert 72 9 (.slice (some ⟨w.heap.size, 0, none⟩) 1 1)).run Tryd.prog (w.alloc (.cells #[.int .u8 (48 + (q : Int) % 10)] t)) = .ok (.string ⟨#[UInt8.ofNat (48 + q % 10)]⟩) (w.alloc (.cells #[.int .u8 (48 + (q : Int) % 10)] t)) := by
  have h := dec_str w t (UInt8.ofNat (48 + q % 10))
  rw [← dig_u8, show ((48 + q % 10 : Nat) : Int) = 48 + (q : Int) % 10 by omega] at h
  exact h
theorem dec_str9 (w : World) (t : TypeId) (q : Nat) (hq : q ≤ 9) : (convert 72 9 (.slice (some ⟨w.heap.size, 0, none⟩) 1 1)).run Tryd.prog (w.alloc (.cells #[.int .u8 (48 + (q : Int))] t)) = .ok (.string ⟨#[UInt8.ofNat (48 + q)]⟩) (w.alloc (.cells #[.int .u8 (48 + (q : Int))] t)) := by
  have h := dec_str10 w t q
  rw [show (q : Int) % 10 = (q : Int) by omega, show q % 10 = q by omega] at h
  exact h
def Tx.dgs (m : Nat) : ByteArray := ⟨(Lib.decDigits m).toArray⟩
theorem dgs_step (q : Nat) (h : 9 < q) (suf : ByteArray) : dgs (q / 10) ++ (⟨#[UInt8.ofNat (48 + q % 10)]⟩ ++ suf) = dgs q ++ suf := by
  apply toList_inj
  rw [ByteArray.toList_eq, ByteArray.toList_eq]
  simp only [ByteArray.data_append, Array.toList_append]
  show Lib.decDigits (q / 10) ++ ([UInt8.ofNat (48 + q % 10)] ++ _) = Lib.decDigits q ++ _
  conv => rhs; rw [Lib.decDigits, dif_neg (by omega)]
  rw [List.append_assoc]
theorem dgs_last (q : Nat) (h : q ≤ 9) : dgs q = ⟨#[UInt8.ofNat (48 + q)]⟩ := by
  unfold dgs
  rw [Lib.decDigits_one (by omega)]
theorem dec_len : ∀ (k u : Nat), u < 10 ^ (k + 1) → (Lib.decDigits u).length ≤ k + 1
  | 0, u, h => by
    rw [Lib.decDigits_one (by simpa using h)]
    exact Nat.le_refl _
  | k + 1, u, h => by
    by_cases h10 : u < 10
    · rw [Lib.decDigits_one h10]
      show 1 ≤ _
      omega
    · rw [Lib.decDigits, dif_neg h10, List.length_append]
      have := dec_len k (u / 10) (by rw [Nat.pow_succ] at h; omega)
      show _ + 1 ≤ _
      omega
theorem dgs_size (m : Nat) (h : m ≤ 9223372036854775808) : (dgs m).size ≤ 19 := by
  show (Lib.decDigits m).toArray.size ≤ 19
  have := dec_len 18 m (by omega)
  simpa using this
set_option maxRecDepth 100000 in
set_option maxHeartbeats 4000000 in
theorem decN_any (m : Nat) (w : World) (hm : m ≤ 9223372036854775807) :
    Calls Tryd.prog 26 #[.int .i64 (m : Int)] w fun e w' => e = .returned (.string (dgs m)) ∧ Below w.heap.size w w' := by
  have HE : Hid (dgs m ++ ⟨#[]⟩ = dgs m) := by
    show _ = _
    apply toList_inj
    rw [ByteArray.toList_eq, ByteArray.toList_eq]
    simp
  go_enter Tryd.func26, Tryd.ntmps26
  go_wp2
  go_loopw [0, 3] (fun n s wr => ∃ (q : Nat) (suf : ByteArray), q ≤ m ∧ n = .int .i64 (q : Int) ∧ s = .string suf ∧ dgs q ++ suf = dgs m ∧ Below w.heap.size w wr) (fun n _ _ => (intOf n).toNat)
  case atStart => exact ⟨m, _, Nat.le_refl _, rfl, rfl, HE.out, Below.refl _ _⟩
  case round =>
    obtain ⟨q, suf, hq, rfl, rfl, he, hbel⟩ := hrel
    have HQ : Hid (dgs q ++ suf = dgs m) := he
    have hss : suf.size ≤ 19 := by
      have h8 := congrArg ByteArray.size he
      rw [ByteArray.size_append] at h8
      have h7 := dgs_size m (by omega)
      omega
    clear he HE
    by_cases h9 : 9 < q
    · have HN : Hid (dgs (q / 10) ++ (⟨#[UInt8.ofNat (48 + q % 10)]⟩ ++ suf) = dgs m) := (dgs_step q h9 suf).trans HQ.out
      have hcv := fun t => dec_str10 wr t q
      generalize UInt8.ofNat (48 + q % 10) = b at HN hcv
      go_wp2
      go_roundw
      case rel => exact ⟨q / 10, _, by omega, by go_num, rfl, HN.out, up hbel _⟩
      case measure => simp [intOf]; omega
    · have HN : Hid (⟨#[UInt8.ofNat (48 + q)]⟩ ++ suf = dgs m) := by
        show _ = _
        rw [← dgs_last q (by omega)]
        exact HQ.out
      have hcv := fun t => dec_str9 wr t q (by omega)
      generalize UInt8.ofNat (48 + q) = b at HN hcv
      go_wp2
      go_ret
      exact ⟨congrArg (fun z => Ending.returned (Value.string z)) HN.out, up hbel _⟩
theorem itoa_min : (Lib.itoa (-9223372036854775808)).toArray = #[45, 57, 50, 50, 51, 51, 55, 50, 48, 51, 54, 56, 53, 52, 55, 55, 53, 56, 48, 56] := by decide +kernel
set_option maxRecDepth 100000 in
set_option maxHeartbeats 4000000 in
theorem decimal_any (v : Int) (w : World) (h1 : -9223372036854775808 ≤ v) (h2 : v ≤ 9223372036854775807) :
    Calls Tryd.prog 26 #[.int .i64 v] w fun e w' => e = .returned (.string ⟨(Lib.itoa v).toArray⟩) ∧ Below w.heap.size w w' := by
  by_cases hn : v < 0
  · by_cases hm : v = -9223372036854775808
    · subst hm
      rw [itoa_min]
      go_enter Tryd.func26, Tryd.ntmps26
      go_wp2
      go_ret
      exact ⟨rfl, Below.refl _ _⟩
    · have hi : (Lib.itoa v).toArray = #[45] ++ (Lib.decDigits v.natAbs).toArray := by
        unfold Lib.itoa
        rw [if_pos hn]
        simp
      have HR : Hid ((⟨(Lib.itoa v).toArray⟩ : ByteArray) = ⟨#[45]⟩ ++ dgs v.natAbs) := by
        show _ = _
        apply toList_inj
        rw [ByteArray.toList_eq, ByteArray.toList_eq, ByteArray.data_append]
        rw [hi]
        rfl
      rw [HR.out]
      obtain ⟨m, hm2⟩ : ∃ m : Nat, -v = (m : Int) := ⟨v.natAbs, by omega⟩
      have e : v.natAbs = m := by omega
      rw [e]
      have HC : Hid (Calls Tryd.prog 26 #[.int .i64 (m : Int)] w fun e w' => e = .returned (.string (dgs m)) ∧ Below w.heap.size w w') := decN_any m w (by omega)
      have hdz := dgs_size m (by omega)
      clear HR hi e
      go_enter Tryd.func26, Tryd.ntmps26
      go_wp2_with fail
      refine HC.out.mono ?_
      rintro e w1 ⟨rfl, b1⟩
      go_wp2
      go_ret
      exact ⟨rfl, b1⟩
  · obtain ⟨m, rfl⟩ : ∃ m : Nat, v = (m : Int) := ⟨v.toNat, by omega⟩
    rw [Lib.itoa_nonneg]
    exact decN_any m w (by omega)
end Go.Proofs.YtneifdbcjicfgaaDoor

/-
  TextLine: written, what it stands on.
-/
namespace Go.Proofs.YtneifdbcjicfgaaDoor
open Go Go.RowKit
open Tx

/-- numbers in a slice -/
def Is (w : World) (v : Value) (zs : List Int) : Prop := ∃ ao, ∃ cap : Nat, v = .slice ao zs.length cap ∧ zs.length ≤ cap ∧ cap ≤ maxLen ∧ ∀ (k : Nat) (z : Int), zs[k]? = some z → (-9223372036854775808 ≤ z ∧ z ≤ 9223372036854775807) ∧ ∃ b off, ao = some ⟨b, off, none⟩ ∧ w.cell? ⟨b, off + k, none⟩ = some (.int .i64 z)
theorem Is.kept {w w' : World} {v : Value} {zs : List Int} (h : Is w v zs) (hb : Below w.heap.size w w') : Is w' v zs := by
  obtain ⟨ao, cap, e, h1, h2, h3⟩ := h
  refine ⟨ao, cap, e, h1, h2, fun k z hz => ?_⟩
  obtain ⟨h0, b, off, e2, h4⟩ := h3 k z hz
  exact ⟨h0, b, off, e2, (hb.cell (p := ⟨b, _, none⟩) (World.block_lt_of_cell? _ _ h4)).trans h4⟩
/-- where written stands -/
structure Wst (w0 : World) (gP gR gW : Nat) (k : Int) (pk : Value) (nm : Int) (tx : ByteArray) (gp : Int) (d : Wd) (w : World) : Prop where
  low : w0.heap.size ≤ gR ∧ w0.heap.size ≤ gW ∧ gR ≠ gW ∧ gP ≠ gW
  p : w.heap[gP]? = some (.cells #[.int .i64 k, pk, .int .i64 nm, .string tx, .int .i64 gp] 29)
  r : Wx w gR zeroW
  x : Wx w gW d
  bel : Below w0.heap.size w0 w
theorem Wx.lt {w : World} {g : Nat} {d : Wd} (h : Wx w g d) : g < w.heap.size := by
  obtain ⟨t, h9⟩ := h
  exact (Array.getElem?_eq_some_iff.1 h9).1
section
variable {w0 w w' : World} {gP gR gW : Nat} {k : Int} {pk : Value} {nm : Int} {tx : ByteArray} {gp : Int} {d : Wd}
theorem Wst.kept (h : Wst w0 gP gR gW k pk nm tx gp d w) (hb : Below w.heap.size w w') : Wst w0 gP gR gW k pk nm tx gp d w' :=
  ⟨h.low, (hb.block gP (Array.getElem?_eq_some_iff.1 h.p).1).trans h.p, h.r.block (hb.block gR h.r.lt), h.x.block (hb.block gW h.x.lt), andThen h.bel hb⟩
theorem Wst.text (h : Wst w0 gP gR gW k pk nm tx gp d w) (t : ByteArray) : Wst w0 gP gR gW k pk nm tx gp ⟨d.k, d.at_, t, d.n⟩ (w.setCell ⟨gW, 2, none⟩ (.string t)) := by
  refine ⟨h.low, (set_other _ _ _ gP h.low.2.2.2).trans h.p, h.r.block (set_other _ _ _ gR h.low.2.2.1), ?_, h.bel.setCell (p := ⟨gW, 2, none⟩) h.low.2.1 _⟩
  obtain ⟨t', hx⟩ := h.x
  refine ⟨t', ?_⟩
  simp only [World.setCell, Array.getElem?_modify, if_true, hx]
  rfl
theorem Wst.num (h : Wst w0 gP gR gW k pk nm tx gp d w) (n : Int) : Wst w0 gP gR gW k pk nm tx gp ⟨d.k, d.at_, d.t, n⟩ (w.setCell ⟨gW, 3, none⟩ (.int .i64 n)) := by
  refine ⟨h.low, (set_other _ _ _ gP h.low.2.2.2).trans h.p, h.r.block (set_other _ _ _ gR h.low.2.2.1), ?_, h.bel.setCell (p := ⟨gW, 3, none⟩) h.low.2.1 _⟩
  obtain ⟨t', hx⟩ := h.x
  refine ⟨t', ?_⟩
  simp only [World.setCell, Array.getElem?_modify, if_true, hx]
  rfl
theorem Wst.cells (h : Wst w0 gP gR gW k pk nm tx gp d w) : w.cell? ⟨gP, 0, none⟩ = some (.int .i64 k) ∧ w.cell? ⟨gP, 1, none⟩ = some pk ∧ w.cell? ⟨gP, 2, none⟩ = some (.int .i64 nm) ∧ w.cell? ⟨gP, 3, none⟩ = some (.string tx) :=
  ⟨heap_cell h.p 0 _ rfl, heap_cell h.p 1 _ rfl, heap_cell h.p 2 _ rfl, heap_cell h.p 3 _ rfl⟩
theorem Wst.done (h : Wst w0 gP gR gW k pk nm tx gp d w) : Wx (store4 w gR d) gR d ∧ Below w0.heap.size w0 (store4 w gR d) := ⟨h.r.store d, store4_below h.bel h.low.1 d⟩
end
theorem wst_new (w : World) (k : Int) (pk : Value) (nm : Int) (tx : ByteArray) (gp a : Int) : Wst w w.heap.size (w.heap.size + 1) (w.heap.size + 1 + 1) k pk nm tx gp ⟨k, a, ⟨#[]⟩, 0⟩ (((w.alloc (.cells #[.int .i64 k, pk, .int .i64 nm, .string tx, .int .i64 gp] 29)).alloc (.cells #[.int .i64 0, .int .i64 0, .string ⟨#[]⟩, .int .i64 0] 24)).alloc (.cells #[.int .i64 k, .int .i64 a, .string ⟨#[]⟩, .int .i64 0] 24)) := by
  have h1 := heapW w (.cells #[.int .i64 k, pk, .int .i64 nm, .string tx, .int .i64 gp] 29)
  generalize hA : w.alloc (.cells #[.int .i64 k, pk, .int .i64 nm, .string tx, .int .i64 gp] 29) = A at *
  have h2 := heapW A (.cells #[.int .i64 0, .int .i64 0, .string ⟨#[]⟩, .int .i64 0] 24)
  have hr := wx_new A zeroW 24
  have b1 : Below w.heap.size w A := by rw [← hA]; exact up0 _ _
  have b2 := up0 A (.cells #[.int .i64 0, .int .i64 0, .string ⟨#[]⟩, .int .i64 0] 24)
  have hp : A.heap[w.heap.size]? = some (.cells #[.int .i64 k, pk, .int .i64 nm, .string tx, .int .i64 gp] 29) := by
    rw [← hA]
    exact Array.getElem?_push_size
  simp only [zeroW] at hr
  rw [h1] at hr
  generalize hC : A.alloc (.cells #[.int .i64 0, .int .i64 0, .string ⟨#[]⟩, .int .i64 0] 24) = C at *
  have b3 := up0 C (.cells #[.int .i64 k, .int .i64 a, .string ⟨#[]⟩, .int .i64 0] 24)
  have hx := wx_new C ⟨k, a, ⟨#[]⟩, 0⟩ 24
  simp only at hx
  rw [h2, h1] at hx
  refine ⟨⟨by omega, by omega, by omega, by omega⟩, ?_, hr.block (b3.block _ (by omega)), hx, andThen (andThen b1 b2) b3⟩
  rw [b3.block _ (by omega), b2.block _ (by omega)]
  exact hp
end Go.Proofs.YtneifdbcjicfgaaDoor
