import Derived.Shelf.Strconv.Itoa3
import Derived.Shelf.Strconv.ErrVarAll
import Derived.Shelf.Strings.OnBuilder
import Derived.Ground.NamesProg
import Derived.Test.YtcnnpohnfoaceaaGreatDoorProg
import Derived.Lib.SmallJoins
import Derived.Deep.CutRange
import Derived.Deep.MidRow
import Derived.BigQuiet
import Derived.Test.YtcnnpohnfoaceaaGreatDoorQT5
namespace Go.Proofs.YtcnnpohnfoaceaaGreatDoor
open Go.Shelf
def laysItoa_ren : Go.Shelf.Ren := ⟨fun | 171 => 47 | 243 => 74 | 246 => 91 | 283 => 104 | 284 => 105 | 285 => 106 | 286 => 107 | 129 => 126 | 317 => 125 | 318 => 127 | 319 => 128 | 320 => 129 | 337 => 138 | 338 => 139 | n => n, fun | 3 => 3 | 9 => 9 | 2 => 2 | 4 => 4 | 171 => 143 | 0 => 0 | 53 => 144 | 37 => 92 | 5 => 5 | 173 => 147 | 212 => 163 | 51 => 164 | 20 => 20 | 213 => 165 | 46 => 151 | 232 => 178 | 233 => 179 | n => n, fun | 17 => 4 | 18 => 8 | 19 => 9 | n => n⟩
theorem laysItoa : Go.Proofs.LaysM.n171 Tryz.prog laysItoa_ren := {
  mixed := by kernel_rfl
  f129 := Tryz.func126.trans (congrArg some (by kernel_rfl))
  f171 := Tryz.func47.trans (congrArg some (by kernel_rfl))
  f243 := Tryz.func74.trans (congrArg some (by kernel_rfl))
  f246 := Tryz.func91.trans (congrArg some (by kernel_rfl))
  f283 := Tryz.func104.trans (congrArg some (by kernel_rfl))
  f284 := Tryz.func105.trans (congrArg some (by kernel_rfl))
  f285 := Tryz.func106.trans (congrArg some (by kernel_rfl))
  f286 := Tryz.func107.trans (congrArg some (by kernel_rfl))
  f317 := Tryz.func125.trans (congrArg some (by kernel_rfl))
  f318 := Tryz.func127.trans (congrArg some (by kernel_rfl))
  f319 := Tryz.func128.trans (congrArg some (by kernel_rfl))
  f320 := Tryz.func129.trans (congrArg some (by kernel_rfl))
  f337 := Tryz.func138.trans (congrArg some (by kernel_rfl))
  f338 := Tryz.func139.trans (congrArg some (by kernel_rfl))
  t0 := Tryz.underlying0
  a0 := Tryz.isAgg0
  z0 := Tryz.sizeOf0
  v0 := Tryz.zeroValue0
  t2 := Tryz.underlying2
  a2 := Tryz.isAgg2
  z2 := Tryz.sizeOf2
  v2 := Tryz.zeroValue2
  t3 := Tryz.underlying3
  a3 := Tryz.isAgg3
  z3 := Tryz.sizeOf3
  v3 := Tryz.zeroValue3
  t4 := Tryz.underlying4
  a4 := Tryz.isAgg4
  z4 := Tryz.sizeOf4
  v4 := Tryz.zeroValue4
  t5 := Tryz.underlying5
  a5 := Tryz.isAgg5
  z5 := Tryz.sizeOf5
  v5 := Tryz.zeroValue5
  t9 := Tryz.underlying9
  a9 := Tryz.isAgg9
  z9 := Tryz.sizeOf9
  v9 := Tryz.zeroValue9
  t20 := Tryz.underlying20
  a20 := Tryz.isAgg20
  z20 := Tryz.sizeOf20
  v20 := Tryz.zeroValue20
  t37 := Tryz.underlying92
  a37 := Tryz.isAgg92
  z37 := Tryz.sizeOf92
  v37 := Tryz.zeroValue92
  t46 := Tryz.underlying151
  a46 := Tryz.isAgg151
  z46 := Tryz.sizeOf151
  v46 := Tryz.zeroValue151
  t51 := Tryz.underlying164
  a51 := Tryz.isAgg164
  z51 := Tryz.sizeOf164
  v51 := Tryz.zeroValue164
  t53 := Tryz.underlying144
  a53 := Tryz.isAgg144
  z53 := Tryz.sizeOf144
  v53 := Tryz.zeroValue144
  t171 := Tryz.underlying143
  a171 := Tryz.isAgg143
  z171 := Tryz.sizeOf143
  v171 := Tryz.zeroValue143
  t173 := Tryz.underlying147
  a173 := Tryz.isAgg147
  z173 := Tryz.sizeOf147
  v173 := Tryz.zeroValue147
  t212 := Tryz.underlying163
  a212 := Tryz.isAgg163
  z212 := Tryz.sizeOf163
  v212 := Tryz.zeroValue163
  t213 := Tryz.underlying165
  a213 := Tryz.isAgg165
  z213 := Tryz.sizeOf165
  t232 := Tryz.underlying178
  a232 := Tryz.isAgg178
  z232 := Tryz.sizeOf178
  v232 := Tryz.zeroValue178
  t233 := Tryz.underlying179
  a233 := Tryz.isAgg179
  z233 := Tryz.sizeOf179
  v233 := Tryz.zeroValue179
  g17 := by kernel_rfl
  g18 := by kernel_rfl
  g19 := by kernel_rfl
  i0 := by kernel_rfl
  i2 := by kernel_rfl
  i3 := by kernel_rfl
  i4 := by kernel_rfl
  i5 := by kernel_rfl
  i9 := by kernel_rfl
  i20 := by kernel_rfl
  i37 := by kernel_rfl
  i46 := by kernel_rfl
  i51 := by kernel_rfl
  i53 := by kernel_rfl
  i171 := by kernel_rfl
  i173 := by kernel_rfl
  i212 := by kernel_rfl
  i232 := by kernel_rfl
  i233 := by kernel_rfl
  m17 := by kernel_rfl
  m18 := by kernel_rfl
  m19 := by kernel_rfl }
def laysAtoi_ren : Go.Shelf.Ren := ⟨fun | 172 => 82 | 244 => 96 | 245 => 97 | 247 => 112 | 279 => 113 | 280 => 114 | 281 => 115 | 282 => 116 | 287 => 131 | 316 => 132 | 171 => 47 | 205 => 133 | 321 => 141 | 322 => 142 | 243 => 74 | 246 => 91 | 283 => 104 | 284 => 105 | 285 => 106 | 286 => 107 | 129 => 126 | 317 => 125 | 318 => 127 | 319 => 128 | 320 => 129 | 337 => 138 | 338 => 139 | n => n, fun | 9 => 9 | 3 => 3 | 75 => 97 | 76 => 98 | 4 => 4 | 5 => 5 | 167 => 152 | 37 => 92 | 0 => 0 | 85 => 153 | 2 => 2 | 168 => 155 | 53 => 144 | 175 => 167 | 46 => 151 | 210 => 170 | 127 => 114 | 145 => 177 | 143 => 175 | 21 => 21 | 171 => 143 | 173 => 147 | 212 => 163 | 51 => 164 | 20 => 20 | 213 => 165 | 232 => 178 | 233 => 179 | 80 => 100 | n => n, fun | 15 => 5 | 16 => 6 | 17 => 4 | 18 => 8 | 19 => 9 | n => n⟩
theorem laysAtoi : Go.Proofs.LaysC.n172 Tryz.prog laysAtoi_ren := {
  mixed := by kernel_rfl
  f129 := Tryz.func126.trans (congrArg some (by kernel_rfl))
  f171 := Tryz.func47.trans (congrArg some (by kernel_rfl))
  f172 := Tryz.func82.trans (congrArg some (by kernel_rfl))
  f205 := Tryz.func133.trans (congrArg some (by kernel_rfl))
  f243 := Tryz.func74.trans (congrArg some (by kernel_rfl))
  f244 := Tryz.func96.trans (congrArg some (by kernel_rfl))
  f245 := Tryz.func97.trans (congrArg some (by kernel_rfl))
  f246 := Tryz.func91.trans (congrArg some (by kernel_rfl))
  f247 := Tryz.func112.trans (congrArg some (by kernel_rfl))
  f279 := Tryz.func113.trans (congrArg some (by kernel_rfl))
  f280 := Tryz.func114.trans (congrArg some (by kernel_rfl))
  f281 := Tryz.func115.trans (congrArg some (by kernel_rfl))
  f282 := Tryz.func116.trans (congrArg some (by kernel_rfl))
  f283 := Tryz.func104.trans (congrArg some (by kernel_rfl))
  f284 := Tryz.func105.trans (congrArg some (by kernel_rfl))
  f285 := Tryz.func106.trans (congrArg some (by kernel_rfl))
  f286 := Tryz.func107.trans (congrArg some (by kernel_rfl))
  f287 := Tryz.func131.trans (congrArg some (by kernel_rfl))
  f316 := Tryz.func132.trans (congrArg some (by kernel_rfl))
  f317 := Tryz.func125.trans (congrArg some (by kernel_rfl))
  f318 := Tryz.func127.trans (congrArg some (by kernel_rfl))
  f319 := Tryz.func128.trans (congrArg some (by kernel_rfl))
  f320 := Tryz.func129.trans (congrArg some (by kernel_rfl))
  f321 := Tryz.func141.trans (congrArg some (by kernel_rfl))
  f322 := Tryz.func142.trans (congrArg some (by kernel_rfl))
  f337 := Tryz.func138.trans (congrArg some (by kernel_rfl))
  f338 := Tryz.func139.trans (congrArg some (by kernel_rfl))
  t0 := Tryz.underlying0
  a0 := Tryz.isAgg0
  z0 := Tryz.sizeOf0
  v0 := Tryz.zeroValue0
  t2 := Tryz.underlying2
  a2 := Tryz.isAgg2
  z2 := Tryz.sizeOf2
  v2 := Tryz.zeroValue2
  t3 := Tryz.underlying3
  a3 := Tryz.isAgg3
  z3 := Tryz.sizeOf3
  v3 := Tryz.zeroValue3
  t4 := Tryz.underlying4
  a4 := Tryz.isAgg4
  z4 := Tryz.sizeOf4
  v4 := Tryz.zeroValue4
  t5 := Tryz.underlying5
  a5 := Tryz.isAgg5
  z5 := Tryz.sizeOf5
  v5 := Tryz.zeroValue5
  t9 := Tryz.underlying9
  a9 := Tryz.isAgg9
  z9 := Tryz.sizeOf9
  v9 := Tryz.zeroValue9
  t20 := Tryz.underlying20
  a20 := Tryz.isAgg20
  z20 := Tryz.sizeOf20
  v20 := Tryz.zeroValue20
  t21 := Tryz.underlying21
  a21 := Tryz.isAgg21
  z21 := Tryz.sizeOf21
  v21 := Tryz.zeroValue21
  t37 := Tryz.underlying92
  a37 := Tryz.isAgg92
  z37 := Tryz.sizeOf92
  v37 := Tryz.zeroValue92
  t46 := Tryz.underlying151
  a46 := Tryz.isAgg151
  z46 := Tryz.sizeOf151
  v46 := Tryz.zeroValue151
  t51 := Tryz.underlying164
  a51 := Tryz.isAgg164
  z51 := Tryz.sizeOf164
  v51 := Tryz.zeroValue164
  t53 := Tryz.underlying144
  a53 := Tryz.isAgg144
  z53 := Tryz.sizeOf144
  v53 := Tryz.zeroValue144
  t75 := Tryz.underlying97
  a75 := Tryz.isAgg97
  z75 := Tryz.sizeOf97
  v75 := Tryz.zeroValue97
  t76 := Tryz.underlying98
  a76 := Tryz.isAgg98
  z76 := Tryz.sizeOf98
  v76 := Tryz.zeroValue98
  t85 := Tryz.underlying153
  a85 := Tryz.isAgg153
  z85 := Tryz.sizeOf153
  v85 := Tryz.zeroValue153
  t127 := Tryz.underlying114
  a127 := Tryz.isAgg114
  z127 := Tryz.sizeOf114
  v127 := Tryz.zeroValue114
  t143 := Tryz.underlying175
  a143 := Tryz.isAgg175
  z143 := Tryz.sizeOf175
  v143 := Tryz.zeroValue175
  t145 := Tryz.underlying177
  a145 := Tryz.isAgg177
  z145 := Tryz.sizeOf177
  v145 := Tryz.zeroValue177
  t167 := Tryz.underlying152
  a167 := Tryz.isAgg152
  z167 := Tryz.sizeOf152
  v167 := Tryz.zeroValue152
  t168 := Tryz.underlying155
  a168 := Tryz.isAgg155
  z168 := Tryz.sizeOf155
  v168 := Tryz.zeroValue155
  t171 := Tryz.underlying143
  a171 := Tryz.isAgg143
  z171 := Tryz.sizeOf143
  v171 := Tryz.zeroValue143
  t173 := Tryz.underlying147
  a173 := Tryz.isAgg147
  z173 := Tryz.sizeOf147
  v173 := Tryz.zeroValue147
  t175 := Tryz.underlying167
  a175 := Tryz.isAgg167
  z175 := Tryz.sizeOf167
  v175 := Tryz.zeroValue167
  t210 := Tryz.underlying170
  a210 := Tryz.isAgg170
  z210 := Tryz.sizeOf170
  v210 := Tryz.zeroValue170
  t212 := Tryz.underlying163
  a212 := Tryz.isAgg163
  z212 := Tryz.sizeOf163
  v212 := Tryz.zeroValue163
  t213 := Tryz.underlying165
  a213 := Tryz.isAgg165
  z213 := Tryz.sizeOf165
  t232 := Tryz.underlying178
  a232 := Tryz.isAgg178
  z232 := Tryz.sizeOf178
  v232 := Tryz.zeroValue178
  t233 := Tryz.underlying179
  a233 := Tryz.isAgg179
  z233 := Tryz.sizeOf179
  v233 := Tryz.zeroValue179
  g15 := by kernel_rfl
  g16 := by kernel_rfl
  g17 := by kernel_rfl
  g18 := by kernel_rfl
  g19 := by kernel_rfl
  t80 := Tryz.underlying100
  a80 := Tryz.isAgg100
  z80 := Tryz.sizeOf100
  v80 := Tryz.zeroValue100
  i0 := by kernel_rfl
  i2 := by kernel_rfl
  i3 := by kernel_rfl
  i4 := by kernel_rfl
  i5 := by kernel_rfl
  i9 := by kernel_rfl
  i20 := by kernel_rfl
  i21 := by kernel_rfl
  i37 := by kernel_rfl
  i46 := by kernel_rfl
  i51 := by kernel_rfl
  i53 := by kernel_rfl
  i75 := by kernel_rfl
  i76 := by kernel_rfl
  i80 := by kernel_rfl
  i85 := by kernel_rfl
  i127 := by kernel_rfl
  i143 := by kernel_rfl
  i145 := by kernel_rfl
  i167 := by kernel_rfl
  i168 := by kernel_rfl
  i171 := by kernel_rfl
  i173 := by kernel_rfl
  i175 := by kernel_rfl
  i210 := by kernel_rfl
  i212 := by kernel_rfl
  i232 := by kernel_rfl
  i233 := by kernel_rfl
  m15 := by kernel_rfl
  m16 := by kernel_rfl
  m17 := by kernel_rfl
  m18 := by kernel_rfl
  m19 := by kernel_rfl
  c0 := by kernel_rfl
  c2 := by kernel_rfl
  c3 := by kernel_rfl
  c4 := by kernel_rfl
  c5 := by kernel_rfl
  c9 := by kernel_rfl
  c20 := by kernel_rfl
  c21 := by kernel_rfl
  c37 := by kernel_rfl
  c46 := by kernel_rfl
  c51 := by kernel_rfl
  c53 := by kernel_rfl
  c75 := by kernel_rfl
  c76 := by kernel_rfl
  c80 := by kernel_rfl
  c85 := by kernel_rfl
  c127 := by kernel_rfl
  c143 := by kernel_rfl
  c145 := by kernel_rfl
  c167 := by kernel_rfl
  c168 := by kernel_rfl
  c171 := by kernel_rfl
  c173 := by kernel_rfl
  c175 := by kernel_rfl
  c210 := by kernel_rfl
  c212 := by kernel_rfl
  c213 := by kernel_rfl
  c232 := by kernel_rfl
  c233 := by kernel_rfl }
def laysJoin_ren : Go.Shelf.Ren := ⟨fun | 156 => 27 | 165 => 50 | 166 => 51 | 169 => 52 | 240 => 75 | 241 => 76 | 276 => 92 | 277 => 93 | n => n, fun | 31 => 67 | 9 => 9 | 3 => 3 | 4 => 4 | 0 => 0 | 20 => 20 | 72 => 94 | 76 => 98 | 70 => 91 | 37 => 92 | 75 => 97 | 127 => 114 | 164 => 133 | 5 => 5 | 80 => 100 | n => n, fun | n => n⟩
theorem laysJoin : Go.Proofs.Lays.n156 Tryz.prog laysJoin_ren := {
  mixed := by kernel_rfl
  f156 := Tryz.func27.trans (congrArg some (by kernel_rfl))
  f165 := Tryz.func50.trans (congrArg some (by kernel_rfl))
  f166 := Tryz.func51.trans (congrArg some (by kernel_rfl))
  f169 := Tryz.func52.trans (congrArg some (by kernel_rfl))
  f240 := Tryz.func75.trans (congrArg some (by kernel_rfl))
  f241 := Tryz.func76.trans (congrArg some (by kernel_rfl))
  f276 := Tryz.func92.trans (congrArg some (by kernel_rfl))
  f277 := Tryz.func93.trans (congrArg some (by kernel_rfl))
  t0 := Tryz.underlying0
  a0 := Tryz.isAgg0
  z0 := Tryz.sizeOf0
  v0 := Tryz.zeroValue0
  t3 := Tryz.underlying3
  a3 := Tryz.isAgg3
  z3 := Tryz.sizeOf3
  v3 := Tryz.zeroValue3
  t4 := Tryz.underlying4
  a4 := Tryz.isAgg4
  z4 := Tryz.sizeOf4
  v4 := Tryz.zeroValue4
  t9 := Tryz.underlying9
  a9 := Tryz.isAgg9
  z9 := Tryz.sizeOf9
  v9 := Tryz.zeroValue9
  t20 := Tryz.underlying20
  a20 := Tryz.isAgg20
  z20 := Tryz.sizeOf20
  v20 := Tryz.zeroValue20
  t31 := Tryz.underlying67
  a31 := Tryz.isAgg67
  z31 := Tryz.sizeOf67
  v31 := Tryz.zeroValue67
  t37 := Tryz.underlying92
  a37 := Tryz.isAgg92
  z37 := Tryz.sizeOf92
  v37 := Tryz.zeroValue92
  t70 := Tryz.underlying91
  a70 := Tryz.isAgg91
  z70 := Tryz.sizeOf91
  v70 := Tryz.zeroValue91
  t72 := Tryz.underlying94
  a72 := Tryz.isAgg94
  z72 := Tryz.sizeOf94
  v72 := Tryz.zeroValue94
  t75 := Tryz.underlying97
  a75 := Tryz.isAgg97
  z75 := Tryz.sizeOf97
  v75 := Tryz.zeroValue97
  t76 := Tryz.underlying98
  a76 := Tryz.isAgg98
  z76 := Tryz.sizeOf98
  v76 := Tryz.zeroValue98
  t127 := Tryz.underlying114
  a127 := Tryz.isAgg114
  z127 := Tryz.sizeOf114
  v127 := Tryz.zeroValue114
  t164 := Tryz.underlying133
  a164 := Tryz.isAgg133
  z164 := Tryz.sizeOf133
  v164 := Tryz.zeroValue133 }
theorem extraJoin : Builder.Extra Tryz.prog laysJoin_ren where
  sizeBuilder := by kernel_rfl
  liesBuilder := by kernel_rfl
  t5 := Tryz.underlying5
  a5 := Tryz.isAgg5
  z5 := Tryz.sizeOf5
  v5 := Tryz.zeroValue5
  infoByte := by kernel_rfl
  cellsByte := by kernel_rfl
  sizeByte := by kernel_rfl
  neB5 := by decide
end Go.Proofs.YtcnnpohnfoaceaaGreatDoor

/-
  Package text: number, word.
-/
namespace Go.Proofs.YtcnnpohnfoaceaaGreatDoor.Text
open Go Go.RowKit
open Tx

theorem gPow : Tryz.prog.globalNamed "internal/strconv.uint64pow10" = some 4 := by kernel_rfl
theorem gSyn : Tryz.prog.globalNamed "strconv.ErrSyntax" = some 5 := by kernel_rfl
theorem gRng : Tryz.prog.globalNamed "strconv.ErrRange" = some 6 := by kernel_rfl
/-- the library's variables that are read -/
structure NTab (w : World) : Prop where
  pow : Lib.TabIs Tryz.prog w "internal/strconv.uint64pow10" .u64 Lib.pow10Tab
  syn : ∃ tp p, w.var? Tryz.prog "strconv.ErrSyntax" = some #[.iface tp p]
  rng : ∃ tp p, w.var? Tryz.prog "strconv.ErrRange" = some #[.iface tp p]
theorem NTab.kept {w w' : World} (h : NTab w) (hb : Below w.heap.size w w') : NTab w' :=
  ⟨Joins.var_stays gPow h.pow hb (Nat.le_refl _), let ⟨tp, p, e⟩ := h.syn; ⟨tp, p, Joins.var_stays gSyn e hb (Nat.le_refl _)⟩, let ⟨tp, p, e⟩ := h.rng; ⟨tp, p, Joins.var_stays gRng e hb (Nat.le_refl _)⟩⟩
theorem andThenM {w w1 w2 : World} (h : Below w.heap.size w w1) (k : Below w1.heap.size w1 w2) : Below w.heap.size w w2 := h.trans (k.mono h.size)
theorem itoa_all (u : Int) (h0 : -9223372036854775808 ≤ u) (h1 : u ≤ 9223372036854775807) (w : World) (hT : NTab w) : Calls Tryz.prog 47 #[.int .i64 u] w fun e w' => e = .returned (.string ⟨(Lib.itoa u).toArray⟩) ∧ Below w.heap.size w w' := by
  refine (Any.strconv_Itoa laysItoa u h0 h1 w hT.pow).mono ?_
  rintro e w' ⟨rfl, k, os, rfl⟩
  refine ⟨rfl, ⟨rfl, rfl, rfl, ?_, fun j hj => ?_⟩⟩
  · show w.heap.size ≤ (w.heap ++ os).size
    rw [Array.size_append]
    omega
  · show (w.heap ++ os)[j]? = w.heap[j]?
    rw [Array.getElem?_append_left hj]
theorem atoi_good (s : ByteArray) (hs : s.size ≤ 281474976710656) (v : Int) (h : Lib.atoiAll s.data.toList = .ok v) (w : World) : Calls Tryz.prog 82 #[.string s] w fun e w' => e = .returned (.tuple #[.int .i64 v, .nilIface]) ∧ Below w.heap.size w w' := by
  refine (Any.strconv_Atoi_ok laysAtoi s (by omega) v h w).mono ?_
  rintro e w' ⟨rfl, rfl | ⟨t, rfl⟩⟩
  · exact ⟨rfl, Below.refl _ _⟩
  · exact ⟨rfl, Lib.bytesWorld_below _ _ _⟩
theorem atoi_bad (s : ByteArray) (hs : s.size ≤ 281474976710656) (h : ∀ v, Lib.atoiAll s.data.toList ≠ .ok v) (w : World) (hT : NTab w) : Calls Tryz.prog 82 #[.string s] w fun e w' => ∃ z t p, e = .returned (.tuple #[.int .i64 z, .iface t (.pointer p)]) ∧ Below w.heap.size w w' := by
  cases hc : Lib.atoiAll s.data.toList with
  | ok v => exact absurd hc (h v)
  | «syntax» =>
    obtain ⟨tp, p, e⟩ := hT.syn
    refine (Any.strconv_Atoi_syntax_var laysAtoi s hs hc tp p w e).mono ?_
    rintro e w' ⟨N, rfl, _, _, hb⟩
    exact ⟨_, _, _, rfl, hb⟩
  | range =>
    obtain ⟨tp, p, e⟩ := hT.rng
    refine (Any.strconv_Atoi_range_var laysAtoi s hs hc tp p w e).mono ?_
    rintro e w' ⟨N, rfl, _, _, hb⟩
    exact ⟨_, _, _, rfl, hb⟩
theorem texts_ne {a b : ByteArray} (h : a ≠ b) : (a.toList == b.toList) = false := by
  cases hc : a.toList == b.toList with
  | false => rfl
  | true =>
    have h1 := eq_of_beq hc
    rw [ByteArray.toList_eq, ByteArray.toList_eq] at h1
    exact absurd (ByteArray.ext (Array.toList_inj.1 h1)) h
theorem wx_lt {w : World} {g : Nat} {d : Wd} (h : Wx w g d) : g < w.heap.size := by
  obtain ⟨t, h⟩ := h
  exact (Array.getElem?_eq_some_iff.1 h).1
set_option maxRecDepth 100000 in
set_option maxHeartbeats 4000000 in
theorem wnum_any (s : ByteArray) (i : Nat) (w : World) (hi : i < s.size) (hs : s.size ≤ 2000000) (hN : NTab w) (hl : among lets ((Utf8.decode s i).1 : Int) = false) (hd : dig ((Utf8.decode s i).1 : Int) = true ∨ (Utf8.decode s i).1 = 45) :
    Calls Tryz.prog 58 #[.string s, .int .i64 (i : Int)] w fun e w' => e = .returned (wans (wordP s i)) ∧ Below w.heap.size w w' := by
  have HE : Hid (wordP s i = if dEnd s (nFrom s i) = nFrom s i then .inr (22, (i : Int)) else match numP (s.extract i (dEnd s (nFrom s i))).data.toList with | none => .inr (29, (i : Int)) | some v => .inl (⟨2, (i : Int), s.extract i (dEnd s (nFrom s i)), v⟩, dEnd s (nFrom s i))) := by
    show _ = _
    unfold wordP
    rw [if_neg (by simp [hl]), if_pos hd]
    rfl
  have hsm : (Utf8.decode s i).1 < 128 := by
    rcases hd with h | h
    · have := dig_lt h
      omega
    · omega
  have hat := (dec_small s i hsm).2
  have hgi : (s[i]'hi).toNat = (Utf8.decode s i).1 := by rw [hat, ← at_get s i hi]
  clear hat hsm
  by_cases h45 : (Utf8.decode s i).1 = 45
  · rw [h45] at hgi
    have hnf : nFrom s i = i + 1 := by
      unfold nFrom
      rw [if_pos h45]
    rw [hnf] at HE
    clear hl hd h45 hnf
    skip
    have HBH : Hid (∀ w', Below w.heap.size w w' → Calls Tryz.prog 80 #[.string s, .int .i64 ((i : Int) + 1), .func (.func 57) #[] #[]] w' fun e w'' => e = .returned (.int .i64 (dEnd s (i + 1) : Int)) ∧ Below w'.heap.size w' w'') := fun w' _ => behindD_any s (i + 1) w' (by omega) hs
    have hdd := dEnd_digs s s.size (i + 1) (by omega) (by omega)
    have hE1 := hdd.1
    have hE2 := hdd.2.1
    clear hdd
    generalize dEnd s (i + 1) = E at *
    by_cases hEF : E = (i + 1)
    · rw [HE.out, if_pos hEF]
      clear HE
      subst hEF
      go_enter Tryz.func58, Tryz.ntmps58
      go_wp2_with fail
      refine (HBH.out _ (up0 w _)).mono ?_
      rintro e w2 ⟨rfl, b2⟩
      have HX : Hid (Wx w2 w.heap.size zeroW ∧ Below w.heap.size w w2) := ⟨(wx_new w zeroW 55).block (b2.block _ (by rw [heapW]; omega)), andThen (up0 w _) b2⟩
      clear b2 HBH
      obtain ⟨q0, q1, q2, q3⟩ := HX.out.1.cells
      simp only [zeroW] at q0 q1 q2 q3
      have z0 := HX.out.1.frozen 0
      have z1 := HX.out.1.frozen 1
      have z2 := HX.out.1.frozen 2
      have z3 := HX.out.1.frozen 3
      have HEN : Hid (Wx (store4 w2 w.heap.size ⟨0, 0, ⟨#[]⟩, 0⟩) w.heap.size ⟨0, 0, ⟨#[]⟩, 0⟩ ∧ Below w.heap.size w (store4 w2 w.heap.size ⟨0, 0, ⟨#[]⟩, 0⟩)) := ⟨HX.out.1.store _, store4_below HX.out.2 (Nat.le_refl _) _⟩
      clear HX
      go_wp2
      obtain ⟨WE, hWE⟩ : ∃ WE, WE = store4 w2 w.heap.size ⟨0, 0, ⟨#[]⟩, 0⟩ := ⟨_, rfl⟩
      rw [← hWE] at HEN
      have hWE2 : WE = ((((w2.setCell ⟨w.heap.size, 0, none⟩ (.int .i64 0)).setCell ⟨w.heap.size, 1, none⟩ (.int .i64 0)).setCell ⟨w.heap.size, 2, none⟩ (.string ⟨#[]⟩)).setCell ⟨w.heap.size, 3, none⟩ (.int .i64 0)) := hWE
      rw [← hWE2]
      clear hWE hWE2 q0 q1 q2 q3 z0 z1 z2 z3
      obtain ⟨y0, y1, y2, y3⟩ := HEN.out.1.cells
      simp only at y0 y1 y2 y3
      (try simp only [Exit.inBlock, Exit.then])
      refine bodyPost_ret (by simp [results, Tryz.results58, go_sem, y0, y1, y2, y3]; try rfl) rfl ?_
      exact ⟨rfl, HEN.out.2⟩
    · rw [HE.out, if_neg hEF]
      clear HE
      obtain ⟨t, ht⟩ : ∃ t, s.extract i E = t := ⟨_, rfl⟩
      have htz : t.size ≤ 2000000 := by rw [← ht, size_cut s i E hE2]; omega
      have HTX : Hid (s.extract i E = t) := ht
      rw [ht]
      clear ht
      unfold numP
      cases hc : Lib.atoiAll t.data.toList with
      | ok v =>
        have hvb := Lib.atoiAll_bounds hc
        have HAT : Hid (∀ w', Calls Tryz.prog 82 #[.string t] w' fun e w'' => e = .returned (.tuple #[.int .i64 v, .nilIface]) ∧ Below w'.heap.size w' w'') := fun w' => atoi_good t (by omega) v hc w'
        have HIT : Hid (∀ w', Below w.heap.size w w' → Calls Tryz.prog 47 #[.int .i64 v] w' fun e w'' => e = .returned (.string ⟨(Lib.itoa v).toArray⟩) ∧ Below w'.heap.size w' w'') := fun w' hb => itoa_all v hvb.1 hvb.2 w' (hN.kept hb)
        simp only
        by_cases he : Lib.itoa v = t.data.toList
        · rw [if_pos he]
          simp only
          have es : (⟨(Lib.itoa v).toArray⟩ : ByteArray) = t := by
            apply ByteArray.ext
            rw [he]
          rw [es] at HIT
          clear he es hc hN
          go_enter Tryz.func58, Tryz.ntmps58
          go_wp2_with fail
          refine (HBH.out _ (up0 w _)).mono ?_
          rintro e w1 ⟨rfl, b1⟩
          have HX1 : Hid (Wx w1 w.heap.size zeroW ∧ Below w.heap.size w w1) := ⟨(wx_new w zeroW 55).block (b1.block _ (by rw [heapW]; omega)), andThen (up0 w _) b1⟩
          clear b1 HBH
          go_upto_region 8 with fail
          rw [HTX.out]
          go_wp2_with fail
          refine (HAT.out _).mono ?_
          rintro e w2 ⟨rfl, b2⟩
          have HX2 : Hid (Wx w2 w.heap.size zeroW ∧ Below w.heap.size w w2) := ⟨HX1.out.1.block (b2.block _ (wx_lt HX1.out.1)), andThen HX1.out.2 b2⟩
          clear b2 HAT HX1
          go_wp2_with fail
          refine (HIT.out _ HX2.out.2).mono ?_
          rintro e w3 ⟨rfl, b3⟩
          have HX : Hid (Wx w3 w.heap.size zeroW ∧ Below w.heap.size w w3) := ⟨HX2.out.1.block (b3.block _ (wx_lt HX2.out.1)), andThen HX2.out.2 b3⟩
          clear b3 HIT HX2
          obtain ⟨q0, q1, q2, q3⟩ := HX.out.1.cells
          simp only [zeroW] at q0 q1 q2 q3
          have z0 := HX.out.1.frozen 0
          have z1 := HX.out.1.frozen 1
          have z2 := HX.out.1.frozen 2
          have z3 := HX.out.1.frozen 3
          have HEN : Hid (Wx (store4 w3 w.heap.size ⟨2, (i : Int), t, v⟩) w.heap.size ⟨2, (i : Int), t, v⟩ ∧ Below w.heap.size w (store4 w3 w.heap.size ⟨2, (i : Int), t, v⟩)) := ⟨HX.out.1.store _, store4_below HX.out.2 (Nat.le_refl _) _⟩
          clear HX
          go_wp2
          obtain ⟨WE, hWE⟩ : ∃ WE, WE = store4 w3 w.heap.size ⟨2, (i : Int), t, v⟩ := ⟨_, rfl⟩
          rw [← hWE] at HEN
          have hWE2 : WE = ((((w3.setCell ⟨w.heap.size, 0, none⟩ (.int .i64 2)).setCell ⟨w.heap.size, 1, none⟩ (.int .i64 (i : Int))).setCell ⟨w.heap.size, 2, none⟩ (.string t)).setCell ⟨w.heap.size, 3, none⟩ (.int .i64 v)) := hWE
          rw [← hWE2]
          clear hWE hWE2 q0 q1 q2 q3 z0 z1 z2 z3
          obtain ⟨y0, y1, y2, y3⟩ := HEN.out.1.cells
          simp only at y0 y1 y2 y3
          (try simp only [Exit.inBlock, Exit.then])
          refine bodyPost_ret (by simp [results, Tryz.results58, go_sem, y0, y1, y2, y3]; try rfl) rfl ?_
          exact ⟨rfl, HEN.out.2⟩
        · rw [if_neg he]
          simp only
          have hne := texts_ne (a := ⟨(Lib.itoa v).toArray⟩) (b := t) (fun e => he (by rw [← e]))
          generalize (⟨(Lib.itoa v).toArray⟩ : ByteArray) = u at *
          clear he hc hN
          go_enter Tryz.func58, Tryz.ntmps58
          go_wp2_with fail
          refine (HBH.out _ (up0 w _)).mono ?_
          rintro e w1 ⟨rfl, b1⟩
          have HX1 : Hid (Wx w1 w.heap.size zeroW ∧ Below w.heap.size w w1) := ⟨(wx_new w zeroW 55).block (b1.block _ (by rw [heapW]; omega)), andThen (up0 w _) b1⟩
          clear b1 HBH
          go_upto_region 8 with fail
          rw [HTX.out]
          go_wp2_with fail
          refine (HAT.out _).mono ?_
          rintro e w2 ⟨rfl, b2⟩
          have HX2 : Hid (Wx w2 w.heap.size zeroW ∧ Below w.heap.size w w2) := ⟨HX1.out.1.block (b2.block _ (wx_lt HX1.out.1)), andThen HX1.out.2 b2⟩
          clear b2 HAT HX1
          go_wp2_with fail
          refine (HIT.out _ HX2.out.2).mono ?_
          rintro e w3 ⟨rfl, b3⟩
          have HX : Hid (Wx w3 w.heap.size zeroW ∧ Below w.heap.size w w3) := ⟨HX2.out.1.block (b3.block _ (wx_lt HX2.out.1)), andThen HX2.out.2 b3⟩
          clear b3 HIT HX2
          obtain ⟨q0, q1, q2, q3⟩ := HX.out.1.cells
          simp only [zeroW] at q0 q1 q2 q3
          have z0 := HX.out.1.frozen 0
          have z1 := HX.out.1.frozen 1
          have z2 := HX.out.1.frozen 2
          have z3 := HX.out.1.frozen 3
          have HEN : Hid (Wx (store4 w3 w.heap.size ⟨0, 0, ⟨#[]⟩, 0⟩) w.heap.size ⟨0, 0, ⟨#[]⟩, 0⟩ ∧ Below w.heap.size w (store4 w3 w.heap.size ⟨0, 0, ⟨#[]⟩, 0⟩)) := ⟨HX.out.1.store _, store4_below HX.out.2 (Nat.le_refl _) _⟩
          clear HX
          go_wp2
          obtain ⟨WE, hWE⟩ : ∃ WE, WE = store4 w3 w.heap.size ⟨0, 0, ⟨#[]⟩, 0⟩ := ⟨_, rfl⟩
          rw [← hWE] at HEN
          have hWE2 : WE = ((((w3.setCell ⟨w.heap.size, 0, none⟩ (.int .i64 0)).setCell ⟨w.heap.size, 1, none⟩ (.int .i64 0)).setCell ⟨w.heap.size, 2, none⟩ (.string ⟨#[]⟩)).setCell ⟨w.heap.size, 3, none⟩ (.int .i64 0)) := hWE
          rw [← hWE2]
          clear hWE hWE2 q0 q1 q2 q3 z0 z1 z2 z3
          obtain ⟨y0, y1, y2, y3⟩ := HEN.out.1.cells
          simp only at y0 y1 y2 y3
          (try simp only [Exit.inBlock, Exit.then])
          refine bodyPost_ret (by simp [results, Tryz.results58, go_sem, y0, y1, y2, y3]; try rfl) rfl ?_
          exact ⟨rfl, HEN.out.2⟩
      | _ =>
        have HAT : Hid (∀ w', Below w.heap.size w w' → Calls Tryz.prog 82 #[.string t] w' fun e w'' => ∃ z t p, e = .returned (.tuple #[.int .i64 z, .iface t (.pointer p)]) ∧ Below w'.heap.size w' w'') := fun w' hb => atoi_bad t (by omega) (fun v hv => by rw [hc] at hv; cases hv) w' (hN.kept hb)
        simp only
        clear hc hN
        go_enter Tryz.func58, Tryz.ntmps58
        go_wp2_with fail
        refine (HBH.out _ (up0 w _)).mono ?_
        rintro e w1 ⟨rfl, b1⟩
        have HX1 : Hid (Wx w1 w.heap.size zeroW ∧ Below w.heap.size w w1) := ⟨(wx_new w zeroW 55).block (b1.block _ (by rw [heapW]; omega)), andThen (up0 w _) b1⟩
        clear b1 HBH
        go_upto_region 8 with fail
        rw [HTX.out]
        go_wp2_with fail
        refine (HAT.out _ HX1.out.2).mono ?_
        rintro e w2 ⟨z, tt, p, rfl, b2⟩
        have HX : Hid (Wx w2 w.heap.size zeroW ∧ Below w.heap.size w w2) := ⟨HX1.out.1.block (b2.block _ (wx_lt HX1.out.1)), andThen HX1.out.2 b2⟩
        clear b2 HAT HX1
        obtain ⟨q0, q1, q2, q3⟩ := HX.out.1.cells
        simp only [zeroW] at q0 q1 q2 q3
        have z0 := HX.out.1.frozen 0
        have z1 := HX.out.1.frozen 1
        have z2 := HX.out.1.frozen 2
        have z3 := HX.out.1.frozen 3
        have HEN : Hid (Wx (store4 w2 w.heap.size ⟨0, 0, ⟨#[]⟩, 0⟩) w.heap.size ⟨0, 0, ⟨#[]⟩, 0⟩ ∧ Below w.heap.size w (store4 w2 w.heap.size ⟨0, 0, ⟨#[]⟩, 0⟩)) := ⟨HX.out.1.store _, store4_below HX.out.2 (Nat.le_refl _) _⟩
        clear HX
        go_wp2
        obtain ⟨WE, hWE⟩ : ∃ WE, WE = store4 w2 w.heap.size ⟨0, 0, ⟨#[]⟩, 0⟩ := ⟨_, rfl⟩
        rw [← hWE] at HEN
        have hWE2 : WE = ((((w2.setCell ⟨w.heap.size, 0, none⟩ (.int .i64 0)).setCell ⟨w.heap.size, 1, none⟩ (.int .i64 0)).setCell ⟨w.heap.size, 2, none⟩ (.string ⟨#[]⟩)).setCell ⟨w.heap.size, 3, none⟩ (.int .i64 0)) := hWE
        rw [← hWE2]
        clear hWE hWE2 q0 q1 q2 q3 z0 z1 z2 z3
        obtain ⟨y0, y1, y2, y3⟩ := HEN.out.1.cells
        simp only at y0 y1 y2 y3
        (try simp only [Exit.inBlock, Exit.then])
        refine bodyPost_ret (by simp [results, Tryz.results58, go_sem, y0, y1, y2, y3]; try rfl) rfl ?_
        exact ⟨rfl, HEN.out.2⟩
  · have hnf : nFrom s i = i := by
      unfold nFrom
      rw [if_neg h45]
    rw [hnf] at HE
    have hg2 : ¬ (s[i]'hi).toNat = 45 := by rw [hgi]; exact h45
    have hg3 : (((s[i]'hi).toNat : Int) == 45) = false := by simp; omega
    clear hl hd h45 hnf hgi
    skip
    have HBH : Hid (∀ w', Below w.heap.size w w' → Calls Tryz.prog 80 #[.string s, .int .i64 (i : Int), .func (.func 57) #[] #[]] w' fun e w'' => e = .returned (.int .i64 (dEnd s i : Int)) ∧ Below w'.heap.size w' w'') := fun w' _ => behindD_any s i w' (by omega) hs
    have hdd := dEnd_digs s s.size i (by omega) (by omega)
    have hE1 := hdd.1
    have hE2 := hdd.2.1
    clear hdd
    generalize dEnd s i = E at *
    by_cases hEF : E = i
    · rw [HE.out, if_pos hEF]
      clear HE
      subst hEF
      go_enter Tryz.func58, Tryz.ntmps58
      go_wp2_with fail
      refine (HBH.out _ (up0 w _)).mono ?_
      rintro e w2 ⟨rfl, b2⟩
      have HX : Hid (Wx w2 w.heap.size zeroW ∧ Below w.heap.size w w2) := ⟨(wx_new w zeroW 55).block (b2.block _ (by rw [heapW]; omega)), andThen (up0 w _) b2⟩
      clear b2 HBH
      obtain ⟨q0, q1, q2, q3⟩ := HX.out.1.cells
      simp only [zeroW] at q0 q1 q2 q3
      have z0 := HX.out.1.frozen 0
      have z1 := HX.out.1.frozen 1
      have z2 := HX.out.1.frozen 2
      have z3 := HX.out.1.frozen 3
      have HEN : Hid (Wx (store4 w2 w.heap.size ⟨0, 0, ⟨#[]⟩, 0⟩) w.heap.size ⟨0, 0, ⟨#[]⟩, 0⟩ ∧ Below w.heap.size w (store4 w2 w.heap.size ⟨0, 0, ⟨#[]⟩, 0⟩)) := ⟨HX.out.1.store _, store4_below HX.out.2 (Nat.le_refl _) _⟩
      clear HX
      go_wp2
      obtain ⟨WE, hWE⟩ : ∃ WE, WE = store4 w2 w.heap.size ⟨0, 0, ⟨#[]⟩, 0⟩ := ⟨_, rfl⟩
      rw [← hWE] at HEN
      have hWE2 : WE = ((((w2.setCell ⟨w.heap.size, 0, none⟩ (.int .i64 0)).setCell ⟨w.heap.size, 1, none⟩ (.int .i64 0)).setCell ⟨w.heap.size, 2, none⟩ (.string ⟨#[]⟩)).setCell ⟨w.heap.size, 3, none⟩ (.int .i64 0)) := hWE
      rw [← hWE2]
      clear hWE hWE2 q0 q1 q2 q3 z0 z1 z2 z3
      obtain ⟨y0, y1, y2, y3⟩ := HEN.out.1.cells
      simp only at y0 y1 y2 y3
      (try simp only [Exit.inBlock, Exit.then])
      refine bodyPost_ret (by simp [results, Tryz.results58, go_sem, y0, y1, y2, y3]; try rfl) rfl ?_
      exact ⟨rfl, HEN.out.2⟩
    · rw [HE.out, if_neg hEF]
      clear HE
      obtain ⟨t, ht⟩ : ∃ t, s.extract i E = t := ⟨_, rfl⟩
      have htz : t.size ≤ 2000000 := by rw [← ht, size_cut s i E hE2]; omega
      have HTX : Hid (s.extract i E = t) := ht
      rw [ht]
      clear ht
      unfold numP
      cases hc : Lib.atoiAll t.data.toList with
      | ok v =>
        have hvb := Lib.atoiAll_bounds hc
        have HAT : Hid (∀ w', Calls Tryz.prog 82 #[.string t] w' fun e w'' => e = .returned (.tuple #[.int .i64 v, .nilIface]) ∧ Below w'.heap.size w' w'') := fun w' => atoi_good t (by omega) v hc w'
        have HIT : Hid (∀ w', Below w.heap.size w w' → Calls Tryz.prog 47 #[.int .i64 v] w' fun e w'' => e = .returned (.string ⟨(Lib.itoa v).toArray⟩) ∧ Below w'.heap.size w' w'') := fun w' hb => itoa_all v hvb.1 hvb.2 w' (hN.kept hb)
        simp only
        by_cases he : Lib.itoa v = t.data.toList
        · rw [if_pos he]
          simp only
          have es : (⟨(Lib.itoa v).toArray⟩ : ByteArray) = t := by
            apply ByteArray.ext
            rw [he]
          rw [es] at HIT
          clear he es hc hN
          go_enter Tryz.func58, Tryz.ntmps58
          go_wp2_with fail
          refine (HBH.out _ (up0 w _)).mono ?_
          rintro e w1 ⟨rfl, b1⟩
          have HX1 : Hid (Wx w1 w.heap.size zeroW ∧ Below w.heap.size w w1) := ⟨(wx_new w zeroW 55).block (b1.block _ (by rw [heapW]; omega)), andThen (up0 w _) b1⟩
          clear b1 HBH
          go_upto_region 8 with fail
          rw [HTX.out]
          go_wp2_with fail
          refine (HAT.out _).mono ?_
          rintro e w2 ⟨rfl, b2⟩
          have HX2 : Hid (Wx w2 w.heap.size zeroW ∧ Below w.heap.size w w2) := ⟨HX1.out.1.block (b2.block _ (wx_lt HX1.out.1)), andThen HX1.out.2 b2⟩
          clear b2 HAT HX1
          go_wp2_with fail
          refine (HIT.out _ HX2.out.2).mono ?_
          rintro e w3 ⟨rfl, b3⟩
          have HX : Hid (Wx w3 w.heap.size zeroW ∧ Below w.heap.size w w3) := ⟨HX2.out.1.block (b3.block _ (wx_lt HX2.out.1)), andThen HX2.out.2 b3⟩
          clear b3 HIT HX2
          obtain ⟨q0, q1, q2, q3⟩ := HX.out.1.cells
          simp only [zeroW] at q0 q1 q2 q3
          have z0 := HX.out.1.frozen 0
          have z1 := HX.out.1.frozen 1
          have z2 := HX.out.1.frozen 2
          have z3 := HX.out.1.frozen 3
          have HEN : Hid (Wx (store4 w3 w.heap.size ⟨2, (i : Int), t, v⟩) w.heap.size ⟨2, (i : Int), t, v⟩ ∧ Below w.heap.size w (store4 w3 w.heap.size ⟨2, (i : Int), t, v⟩)) := ⟨HX.out.1.store _, store4_below HX.out.2 (Nat.le_refl _) _⟩
          clear HX
          go_wp2
          obtain ⟨WE, hWE⟩ : ∃ WE, WE = store4 w3 w.heap.size ⟨2, (i : Int), t, v⟩ := ⟨_, rfl⟩
          rw [← hWE] at HEN
          have hWE2 : WE = ((((w3.setCell ⟨w.heap.size, 0, none⟩ (.int .i64 2)).setCell ⟨w.heap.size, 1, none⟩ (.int .i64 (i : Int))).setCell ⟨w.heap.size, 2, none⟩ (.string t)).setCell ⟨w.heap.size, 3, none⟩ (.int .i64 v)) := hWE
          rw [← hWE2]
          clear hWE hWE2 q0 q1 q2 q3 z0 z1 z2 z3
          obtain ⟨y0, y1, y2, y3⟩ := HEN.out.1.cells
          simp only at y0 y1 y2 y3
          (try simp only [Exit.inBlock, Exit.then])
          refine bodyPost_ret (by simp [results, Tryz.results58, go_sem, y0, y1, y2, y3]; try rfl) rfl ?_
          exact ⟨rfl, HEN.out.2⟩
        · rw [if_neg he]
          simp only
          have hne := texts_ne (a := ⟨(Lib.itoa v).toArray⟩) (b := t) (fun e => he (by rw [← e]))
          generalize (⟨(Lib.itoa v).toArray⟩ : ByteArray) = u at *
          clear he hc hN
          go_enter Tryz.func58, Tryz.ntmps58
          go_wp2_with fail
          refine (HBH.out _ (up0 w _)).mono ?_
          rintro e w1 ⟨rfl, b1⟩
          have HX1 : Hid (Wx w1 w.heap.size zeroW ∧ Below w.heap.size w w1) := ⟨(wx_new w zeroW 55).block (b1.block _ (by rw [heapW]; omega)), andThen (up0 w _) b1⟩
          clear b1 HBH
          go_upto_region 8 with fail
          rw [HTX.out]
          go_wp2_with fail
          refine (HAT.out _).mono ?_
          rintro e w2 ⟨rfl, b2⟩
          have HX2 : Hid (Wx w2 w.heap.size zeroW ∧ Below w.heap.size w w2) := ⟨HX1.out.1.block (b2.block _ (wx_lt HX1.out.1)), andThen HX1.out.2 b2⟩
          clear b2 HAT HX1
          go_wp2_with fail
          refine (HIT.out _ HX2.out.2).mono ?_
          rintro e w3 ⟨rfl, b3⟩
          have HX : Hid (Wx w3 w.heap.size zeroW ∧ Below w.heap.size w w3) := ⟨HX2.out.1.block (b3.block _ (wx_lt HX2.out.1)), andThen HX2.out.2 b3⟩
          clear b3 HIT HX2
          obtain ⟨q0, q1, q2, q3⟩ := HX.out.1.cells
          simp only [zeroW] at q0 q1 q2 q3
          have z0 := HX.out.1.frozen 0
          have z1 := HX.out.1.frozen 1
          have z2 := HX.out.1.frozen 2
          have z3 := HX.out.1.frozen 3
          have HEN : Hid (Wx (store4 w3 w.heap.size ⟨0, 0, ⟨#[]⟩, 0⟩) w.heap.size ⟨0, 0, ⟨#[]⟩, 0⟩ ∧ Below w.heap.size w (store4 w3 w.heap.size ⟨0, 0, ⟨#[]⟩, 0⟩)) := ⟨HX.out.1.store _, store4_below HX.out.2 (Nat.le_refl _) _⟩
          clear HX
          go_wp2
          obtain ⟨WE, hWE⟩ : ∃ WE, WE = store4 w3 w.heap.size ⟨0, 0, ⟨#[]⟩, 0⟩ := ⟨_, rfl⟩
          rw [← hWE] at HEN
          have hWE2 : WE = ((((w3.setCell ⟨w.heap.size, 0, none⟩ (.int .i64 0)).setCell ⟨w.heap.size, 1, none⟩ (.int .i64 0)).setCell ⟨w.heap.size, 2, none⟩ (.string ⟨#[]⟩)).setCell ⟨w.heap.size, 3, none⟩ (.int .i64 0)) := hWE
          rw [← hWE2]
          clear hWE hWE2 q0 q1 q2 q3 z0 z1 z2 z3
          obtain ⟨y0, y1, y2, y3⟩ := HEN.out.1.cells
          simp only at y0 y1 y2 y3
          (try simp only [Exit.inBlock, Exit.then])
          refine bodyPost_ret (by simp [results, Tryz.results58, go_sem, y0, y1, y2, y3]; try rfl) rfl ?_
          exact ⟨rfl, HEN.out.2⟩
      | _ =>
        have HAT : Hid (∀ w', Below w.heap.size w w' → Calls Tryz.prog 82 #[.string t] w' fun e w'' => ∃ z t p, e = .returned (.tuple #[.int .i64 z, .iface t (.pointer p)]) ∧ Below w'.heap.size w' w'') := fun w' hb => atoi_bad t (by omega) (fun v hv => by rw [hc] at hv; cases hv) w' (hN.kept hb)
        simp only
        clear hc hN
        go_enter Tryz.func58, Tryz.ntmps58
        go_wp2_with fail
        refine (HBH.out _ (up0 w _)).mono ?_
        rintro e w1 ⟨rfl, b1⟩
        have HX1 : Hid (Wx w1 w.heap.size zeroW ∧ Below w.heap.size w w1) := ⟨(wx_new w zeroW 55).block (b1.block _ (by rw [heapW]; omega)), andThen (up0 w _) b1⟩
        clear b1 HBH
        go_upto_region 8 with fail
        rw [HTX.out]
        go_wp2_with fail
        refine (HAT.out _ HX1.out.2).mono ?_
        rintro e w2 ⟨z, tt, p, rfl, b2⟩
        have HX : Hid (Wx w2 w.heap.size zeroW ∧ Below w.heap.size w w2) := ⟨HX1.out.1.block (b2.block _ (wx_lt HX1.out.1)), andThen HX1.out.2 b2⟩
        clear b2 HAT HX1
        obtain ⟨q0, q1, q2, q3⟩ := HX.out.1.cells
        simp only [zeroW] at q0 q1 q2 q3
        have z0 := HX.out.1.frozen 0
        have z1 := HX.out.1.frozen 1
        have z2 := HX.out.1.frozen 2
        have z3 := HX.out.1.frozen 3
        have HEN : Hid (Wx (store4 w2 w.heap.size ⟨0, 0, ⟨#[]⟩, 0⟩) w.heap.size ⟨0, 0, ⟨#[]⟩, 0⟩ ∧ Below w.heap.size w (store4 w2 w.heap.size ⟨0, 0, ⟨#[]⟩, 0⟩)) := ⟨HX.out.1.store _, store4_below HX.out.2 (Nat.le_refl _) _⟩
        clear HX
        go_wp2
        obtain ⟨WE, hWE⟩ : ∃ WE, WE = store4 w2 w.heap.size ⟨0, 0, ⟨#[]⟩, 0⟩ := ⟨_, rfl⟩
        rw [← hWE] at HEN
        have hWE2 : WE = ((((w2.setCell ⟨w.heap.size, 0, none⟩ (.int .i64 0)).setCell ⟨w.heap.size, 1, none⟩ (.int .i64 0)).setCell ⟨w.heap.size, 2, none⟩ (.string ⟨#[]⟩)).setCell ⟨w.heap.size, 3, none⟩ (.int .i64 0)) := hWE
        rw [← hWE2]
        clear hWE hWE2 q0 q1 q2 q3 z0 z1 z2 z3
        obtain ⟨y0, y1, y2, y3⟩ := HEN.out.1.cells
        simp only at y0 y1 y2 y3
        (try simp only [Exit.inBlock, Exit.then])
        refine bodyPost_ret (by simp [results, Tryz.results58, go_sem, y0, y1, y2, y3]; try rfl) rfl ?_
        exact ⟨rfl, HEN.out.2⟩
end Go.Proofs.YtcnnpohnfoaceaaGreatDoor.Text

/-
  Package text: word.
-/
namespace Go.Proofs.YtcnnpohnfoaceaaGreatDoor.Text
open Go Go.RowKit
open Tx

theorem wans_form (r : (Wd × Nat) ⊕ (Int × Int)) : ∃ (d : Wd) (a c : Int), wans r = .tuple #[.agg #[.int .i64 d.k, .int .i64 d.at_, .string d.t, .int .i64 d.n], .int .i64 a, .int .i64 c] := by
  rcases r with ⟨d, e⟩ | ⟨e, p⟩
  · exact ⟨d, _, _, rfl⟩
  · exact ⟨zeroW, _, _, rfl⟩
theorem enc_cut (s : ByteArray) (i : Nat) (hi : i < s.size) (h : at' s i < 128) : Utf8.encode ((at' s i : Nat) : Int) = s.extract i (i + 1) := by
  apply ByteArray.ext
  apply Array.toList_inj.1
  rw [enc1 (at' s i) h]
  have hz : (s.extract i (i + 1)).size = 1 := by rw [size_cut s i (i + 1) (by omega)]; omega
  have hl : (s.extract i (i + 1)).data.toList.length = 1 := by
    rw [Array.length_toList]
    exact hz
  have h0 : (s.extract i (i + 1)).toList[0]? = some ((s.extract i (i + 1)).get! 0) := toList_get _ 0 (by omega)
  rw [ByteArray.toList_eq] at h0
  have h1 : at' (s.extract i (i + 1)) 0 = at' s (i + 0) := at_cut s i (i + 1) 0 (by omega) (by omega)
  cases hd : (s.extract i (i + 1)).data.toList with
  | nil => rw [hd] at hl; cases hl
  | cons x r =>
    rw [hd] at hl h0
    have hr : r = [] := by cases r with | nil => rfl | cons a b => simp at hl
    subst hr
    simp at h0
    congr 1
    apply u8_eq
    unfold at' at h1
    rw [h0]
    have h2 : (s.get! i).toNat < 128 := h
    rw [Nat.add_zero] at h1
    show (UInt8.ofNat (at' s i)).toNat = _
    rw [h1]
    exact UInt8.toNat_ofNat_of_lt' (by show (s.get! i).toNat < 256; omega)
set_option maxRecDepth 100000 in
set_option maxHeartbeats 4000000 in
theorem word_any (s : ByteArray) (i : Nat) (w : World) (hi : i < s.size) (hs : s.size ≤ 2000000) (hT : TabP 0 .i32 lets w) (hH : TabP 7 .i32 hids w) (hD : w.cell? ⟨9, 15, none⟩ = some (.int .u8 4)) (hN : NTab w) :
    Calls Tryz.prog 32 #[.string s, .int .i64 (i : Int), .int .i32 ((Utf8.decode s i).1 : Int)] w fun e w' => e = .returned (wans (wordP s i)) ∧ Below w.heap.size w w' := by
  have HLT : Hid (∀ w', Below w.heap.size w w' → Calls Tryz.prog 55 #[.int .i32 ((Utf8.decode s i).1 : Int)] w' fun e w'' => e = .returned (.bool (among lets ((Utf8.decode s i).1 : Int))) ∧ Below w'.heap.size w' w'') := fun w' hb => letter_any _ w' (hT.kept hb)
  have HDG : Hid (∀ w', Calls Tryz.prog 57 #[.int .i32 ((Utf8.decode s i).1 : Int)] w' fun e w'' => e = .returned (.bool (dig ((Utf8.decode s i).1 : Int))) ∧ w'' = w') := fun w' => digit_any _ w'
  have hval := dec_valid s i
  have HSG : Hid (∀ w', Calls Tryz.prog 53 #[.int .i32 ((Utf8.decode s i).1 : Int)] w' fun e w'' => e = .returned (.bool (sgn (Utf8.decode s i).1)) ∧ Below w'.heap.size w' w'') := fun w' => sign_any _ w' hval
  have HOD : Hid (∀ w', Calls Tryz.prog 30 #[.string s, .int .i64 (i : Int), .int .i32 ((Utf8.decode s i).1 : Int)] w' fun e w'' => e = .returned (.int .i64 (if stray s i then 21 else 22)) ∧ w'' = w') := fun w' => odd_any s i w' hi
  have hdl := decode_le s i
  obtain ⟨d, wa, wc, hw⟩ := wans_form (wordP s i)
  obtain ⟨dk, da, dt, dn⟩ := d
  simp only at hw
  obtain ⟨r, hr⟩ : ∃ r, (Utf8.decode s i).1 = r := ⟨_, rfl⟩
  have HX0 : Hid (Wx (w.alloc (.cells #[.int .i64 0, .int .i64 0, .string ⟨#[]⟩, .int .i64 0] 55)) w.heap.size zeroW ∧ Below w.heap.size w (w.alloc (.cells #[.int .i64 0, .int .i64 0, .string ⟨#[]⟩, .int .i64 0] 55))) := ⟨wx_new w zeroW 55, up0 w _⟩
  cases hl : among lets ((Utf8.decode s i).1 : Int) with
  | true =>
    have HC : Hid (∀ w', Below w.heap.size w w' → Calls Tryz.prog 56 #[.string s, .int .i64 (i : Int)] w' fun e w'' => e = .returned (.tuple #[.agg #[.int .i64 dk, .int .i64 da, .string dt, .int .i64 dn], .int .i64 wa, .int .i64 wc]) ∧ Below w'.heap.size w' w'') := fun w' hb => by
      have h9 := wname_any s i w' hi hs (hT.kept hb) hl
      rw [hw] at h9
      exact h9
    rw [hw]
    rw [hl] at HLT
    rw [hr] at HLT hdl ⊢
    clear hw hr hl HDG HSG HOD hT hH hD hN hval
    go_enter Tryz.func32, Tryz.ntmps32
    go_wp2_with fail
    refine (HLT.out _ HX0.out.2).mono ?_
    rintro e w1 ⟨rfl, b1⟩
    have HXP : Hid (Wx w1 w.heap.size zeroW ∧ Below w.heap.size w w1) := ⟨HX0.out.1.block (b1.block _ (wx_lt HX0.out.1)), andThen HX0.out.2 b1⟩
    clear b1 HLT HX0
    go_wp2_with fail
    refine (HC.out _ HXP.out.2).mono ?_
    rintro e w9 ⟨rfl, b9⟩
    have HX : Hid (Wx w9 w.heap.size zeroW ∧ Below w.heap.size w w9) := ⟨HXP.out.1.block (b9.block _ (wx_lt HXP.out.1)), andThen HXP.out.2 b9⟩
    clear b9 HC HXP
    obtain ⟨q0, q1, q2, q3⟩ := HX.out.1.cells
    simp only [zeroW] at q0 q1 q2 q3
    have z0 := HX.out.1.frozen 0
    have z1 := HX.out.1.frozen 1
    have z2 := HX.out.1.frozen 2
    have z3 := HX.out.1.frozen 3
    have HEN : Hid (Wx (store4 w9 w.heap.size ⟨dk, da, dt, dn⟩) w.heap.size ⟨dk, da, dt, dn⟩ ∧ Below w.heap.size w (store4 w9 w.heap.size ⟨dk, da, dt, dn⟩)) := ⟨HX.out.1.store _, store4_below HX.out.2 (Nat.le_refl _) _⟩
    clear HX
    go_wp2
    obtain ⟨WE, hWE⟩ : ∃ WE, WE = store4 w9 w.heap.size ⟨dk, da, dt, dn⟩ := ⟨_, rfl⟩
    rw [← hWE] at HEN
    have hWE2 : WE = ((((w9.setCell ⟨w.heap.size, 0, none⟩ (.int .i64 dk)).setCell ⟨w.heap.size, 1, none⟩ (.int .i64 da)).setCell ⟨w.heap.size, 2, none⟩ (.string dt)).setCell ⟨w.heap.size, 3, none⟩ (.int .i64 dn)) := hWE
    rw [← hWE2]
    clear hWE hWE2 q0 q1 q2 q3 z0 z1 z2 z3
    obtain ⟨y0, y1, y2, y3⟩ := HEN.out.1.cells
    simp only at y0 y1 y2 y3
    (try simp only [Exit.inBlock, Exit.then])
    refine bodyPost_ret (by simp [results, Tryz.results32, go_sem, y0, y1, y2, y3]; try rfl) rfl ?_
    exact ⟨rfl, HEN.out.2⟩
  | false =>
    by_cases hdn : dig ((Utf8.decode s i).1 : Int) = true ∨ (Utf8.decode s i).1 = 45
    · have HC : Hid (∀ w', Below w.heap.size w w' → Calls Tryz.prog 58 #[.string s, .int .i64 (i : Int)] w' fun e w'' => e = .returned (.tuple #[.agg #[.int .i64 dk, .int .i64 da, .string dt, .int .i64 dn], .int .i64 wa, .int .i64 wc]) ∧ Below w'.heap.size w' w'') := fun w' hb => by
        have h9 := wnum_any s i w' hi hs (hN.kept hb) hl hdn
        rw [hw] at h9
        exact h9
      rw [hw]
      rw [hl] at HLT
      cases hdg : dig ((Utf8.decode s i).1 : Int) with
      | true =>
        rw [hdg] at HDG
        rw [hr] at HLT HDG hdl ⊢
        clear hw hr hl HSG HOD hT hH hD hN hval hdn hdg
        go_enter Tryz.func32, Tryz.ntmps32
        go_wp2_with fail
        refine (HLT.out _ HX0.out.2).mono ?_
        rintro e w1 ⟨rfl, b1⟩
        have HXP : Hid (Wx w1 w.heap.size zeroW ∧ Below w.heap.size w w1) := ⟨HX0.out.1.block (b1.block _ (wx_lt HX0.out.1)), andThen HX0.out.2 b1⟩
        clear b1 HLT HX0
        go_wp2_with fail
        refine (HDG.out _).mono ?_
        rintro e w2 ⟨rfl, rfl⟩
        go_wp2_with fail
        refine (HC.out _ HXP.out.2).mono ?_
        rintro e w9 ⟨rfl, b9⟩
        have HX : Hid (Wx w9 w.heap.size zeroW ∧ Below w.heap.size w w9) := ⟨HXP.out.1.block (b9.block _ (wx_lt HXP.out.1)), andThen HXP.out.2 b9⟩
        clear b9 HC HXP
        obtain ⟨q0, q1, q2, q3⟩ := HX.out.1.cells
        simp only [zeroW] at q0 q1 q2 q3
        have z0 := HX.out.1.frozen 0
        have z1 := HX.out.1.frozen 1
        have z2 := HX.out.1.frozen 2
        have z3 := HX.out.1.frozen 3
        have HEN : Hid (Wx (store4 w9 w.heap.size ⟨dk, da, dt, dn⟩) w.heap.size ⟨dk, da, dt, dn⟩ ∧ Below w.heap.size w (store4 w9 w.heap.size ⟨dk, da, dt, dn⟩)) := ⟨HX.out.1.store _, store4_below HX.out.2 (Nat.le_refl _) _⟩
        clear HX
        go_wp2
        obtain ⟨WE, hWE⟩ : ∃ WE, WE = store4 w9 w.heap.size ⟨dk, da, dt, dn⟩ := ⟨_, rfl⟩
        rw [← hWE] at HEN
        have hWE2 : WE = ((((w9.setCell ⟨w.heap.size, 0, none⟩ (.int .i64 dk)).setCell ⟨w.heap.size, 1, none⟩ (.int .i64 da)).setCell ⟨w.heap.size, 2, none⟩ (.string dt)).setCell ⟨w.heap.size, 3, none⟩ (.int .i64 dn)) := hWE
        rw [← hWE2]
        clear hWE hWE2 q0 q1 q2 q3 z0 z1 z2 z3
        obtain ⟨y0, y1, y2, y3⟩ := HEN.out.1.cells
        simp only at y0 y1 y2 y3
        (try simp only [Exit.inBlock, Exit.then])
        refine bodyPost_ret (by simp [results, Tryz.results32, go_sem, y0, y1, y2, y3]; try rfl) rfl ?_
        exact ⟨rfl, HEN.out.2⟩
      | false =>
        rw [hdg] at HDG
        have hr45 : r = 45 := by
          rcases hdn with h | h
          · rw [hdg] at h; cases h
          · rw [← hr]; exact h
        rw [hr, hr45] at HLT HDG ⊢
        clear hw hr hl HSG HOD hT hH hD hN hval hdn hdg hdl hr45
        go_enter Tryz.func32, Tryz.ntmps32
        go_wp2_with fail
        refine (HLT.out _ HX0.out.2).mono ?_
        rintro e w1 ⟨rfl, b1⟩
        have HXP : Hid (Wx w1 w.heap.size zeroW ∧ Below w.heap.size w w1) := ⟨HX0.out.1.block (b1.block _ (wx_lt HX0.out.1)), andThen HX0.out.2 b1⟩
        clear b1 HLT HX0
        go_wp2_with fail
        refine (HDG.out _).mono ?_
        rintro e w2 ⟨rfl, rfl⟩
        go_wp2_with fail
        refine (HC.out _ HXP.out.2).mono ?_
        rintro e w9 ⟨rfl, b9⟩
        have HX : Hid (Wx w9 w.heap.size zeroW ∧ Below w.heap.size w w9) := ⟨HXP.out.1.block (b9.block _ (wx_lt HXP.out.1)), andThen HXP.out.2 b9⟩
        clear b9 HC HXP
        obtain ⟨q0, q1, q2, q3⟩ := HX.out.1.cells
        simp only [zeroW] at q0 q1 q2 q3
        have z0 := HX.out.1.frozen 0
        have z1 := HX.out.1.frozen 1
        have z2 := HX.out.1.frozen 2
        have z3 := HX.out.1.frozen 3
        have HEN : Hid (Wx (store4 w9 w.heap.size ⟨dk, da, dt, dn⟩) w.heap.size ⟨dk, da, dt, dn⟩ ∧ Below w.heap.size w (store4 w9 w.heap.size ⟨dk, da, dt, dn⟩)) := ⟨HX.out.1.store _, store4_below HX.out.2 (Nat.le_refl _) _⟩
        clear HX
        go_wp2
        obtain ⟨WE, hWE⟩ : ∃ WE, WE = store4 w9 w.heap.size ⟨dk, da, dt, dn⟩ := ⟨_, rfl⟩
        rw [← hWE] at HEN
        have hWE2 : WE = ((((w9.setCell ⟨w.heap.size, 0, none⟩ (.int .i64 dk)).setCell ⟨w.heap.size, 1, none⟩ (.int .i64 da)).setCell ⟨w.heap.size, 2, none⟩ (.string dt)).setCell ⟨w.heap.size, 3, none⟩ (.int .i64 dn)) := hWE
        rw [← hWE2]
        clear hWE hWE2 q0 q1 q2 q3 z0 z1 z2 z3
        obtain ⟨y0, y1, y2, y3⟩ := HEN.out.1.cells
        simp only at y0 y1 y2 y3
        (try simp only [Exit.inBlock, Exit.then])
        refine bodyPost_ret (by simp [results, Tryz.results32, go_sem, y0, y1, y2, y3]; try rfl) rfl ?_
        exact ⟨rfl, HEN.out.2⟩
    · have hdg : dig ((Utf8.decode s i).1 : Int) = false := by
        cases h : dig ((Utf8.decode s i).1 : Int) with
        | true => exact absurd (.inl h) hdn
        | false => rfl
      have h45 : ¬ r = 45 := fun e => hdn (.inr (by rw [hr]; exact e))
      have b45 : ((r : Int) == 45) = false := by simp; omega
      rw [hl] at HLT
      rw [hdg] at HDG
      by_cases h34 : (Utf8.decode s i).1 = 34
      · have HC : Hid (∀ w', Below w.heap.size w w' → Calls Tryz.prog 59 #[.string s, .int .i64 (i : Int)] w' fun e w'' => e = .returned (.tuple #[.agg #[.int .i64 dk, .int .i64 da, .string dt, .int .i64 dn], .int .i64 wa, .int .i64 wc]) ∧ Below w'.heap.size w' w'') := fun w' hb => by
          have h9 := wlit_any s i w' hs (hH.kept hb) (by rw [← hD]; exact World.cell?_of_block (hb.block _ (cell_lt hD))) hl h34
          rw [hw] at h9
          exact h9
        rw [hw]
        rw [h34] at HLT HDG ⊢
        clear hw hr hl HSG HOD hT hH hD hN hval hdn hdg hdl h45 b45 h34
        go_enter Tryz.func32, Tryz.ntmps32
        go_wp2_with fail
        refine (HLT.out _ HX0.out.2).mono ?_
        rintro e w1 ⟨rfl, b1⟩
        have HXP : Hid (Wx w1 w.heap.size zeroW ∧ Below w.heap.size w w1) := ⟨HX0.out.1.block (b1.block _ (wx_lt HX0.out.1)), andThen HX0.out.2 b1⟩
        clear b1 HLT HX0
        go_wp2_with fail
        refine (HDG.out _).mono ?_
        rintro e w2 ⟨rfl, rfl⟩
        go_wp2_with fail
        refine (HC.out _ HXP.out.2).mono ?_
        rintro e w9 ⟨rfl, b9⟩
        have HX : Hid (Wx w9 w.heap.size zeroW ∧ Below w.heap.size w w9) := ⟨HXP.out.1.block (b9.block _ (wx_lt HXP.out.1)), andThen HXP.out.2 b9⟩
        clear b9 HC HXP
        obtain ⟨q0, q1, q2, q3⟩ := HX.out.1.cells
        simp only [zeroW] at q0 q1 q2 q3
        have z0 := HX.out.1.frozen 0
        have z1 := HX.out.1.frozen 1
        have z2 := HX.out.1.frozen 2
        have z3 := HX.out.1.frozen 3
        have HEN : Hid (Wx (store4 w9 w.heap.size ⟨dk, da, dt, dn⟩) w.heap.size ⟨dk, da, dt, dn⟩ ∧ Below w.heap.size w (store4 w9 w.heap.size ⟨dk, da, dt, dn⟩)) := ⟨HX.out.1.store _, store4_below HX.out.2 (Nat.le_refl _) _⟩
        clear HX
        go_wp2
        obtain ⟨WE, hWE⟩ : ∃ WE, WE = store4 w9 w.heap.size ⟨dk, da, dt, dn⟩ := ⟨_, rfl⟩
        rw [← hWE] at HEN
        have hWE2 : WE = ((((w9.setCell ⟨w.heap.size, 0, none⟩ (.int .i64 dk)).setCell ⟨w.heap.size, 1, none⟩ (.int .i64 da)).setCell ⟨w.heap.size, 2, none⟩ (.string dt)).setCell ⟨w.heap.size, 3, none⟩ (.int .i64 dn)) := hWE
        rw [← hWE2]
        clear hWE hWE2 q0 q1 q2 q3 z0 z1 z2 z3
        obtain ⟨y0, y1, y2, y3⟩ := HEN.out.1.cells
        simp only at y0 y1 y2 y3
        (try simp only [Exit.inBlock, Exit.then])
        refine bodyPost_ret (by simp [results, Tryz.results32, go_sem, y0, y1, y2, y3]; try rfl) rfl ?_
        exact ⟨rfl, HEN.out.2⟩
      · have h34' : ¬ r = 34 := fun e => h34 (by rw [hr]; exact e)
        have b34 : ((r : Int) == 34) = false := by simp; omega
        cases hsg : sgn (Utf8.decode s i).1 with
        | true =>
          have hsm := dec_small s i (sgn_lt hsg).1
          have HE : Hid (wordP s i = .inl (⟨4, (i : Int), s.extract i (i + 1), 0⟩, i + 1)) := by
            show _ = _
            unfold wordP
            rw [if_neg (by simp [hl]), if_neg hdn, if_neg h34, if_pos hsg]
          have hra : r = at' s i := by rw [← hr, hsm.2]
          have hcv : ∀ w', (convert 21 9 (.int .i32 (r : Int))).run Tryz.prog w' = .ok (.string (s.extract i (i + 1))) w' := fun w' => by
            rw [← enc_cut s i hi hsm.1, ← hra]
            exact run_convert_int_string w' 21 9 .i32 (r : Int) (by kernel_rfl) Tryz.underlying9
          rw [HE.out]
          rw [hsg] at HSG
          rw [hr] at HLT HDG HSG hdl ⊢
          clear hw hr hl HOD hT hH hD hN hval hdn hdg h34 hsg HE hra hsm
          generalize s.extract i (i + 1) = tx at *
          go_enter Tryz.func32, Tryz.ntmps32
          go_wp2_with fail
          refine (HLT.out _ HX0.out.2).mono ?_
          rintro e w1 ⟨rfl, b1⟩
          have HXP : Hid (Wx w1 w.heap.size zeroW ∧ Below w.heap.size w w1) := ⟨HX0.out.1.block (b1.block _ (wx_lt HX0.out.1)), andThen HX0.out.2 b1⟩
          clear b1 HLT HX0
          go_wp2_with fail
          refine (HDG.out _).mono ?_
          rintro e w2 ⟨rfl, rfl⟩
          go_wp2_with fail
          refine (HSG.out _).mono ?_
          rintro e w9 ⟨rfl, b9⟩
          have HX : Hid (Wx w9 w.heap.size zeroW ∧ Below w.heap.size w w9) := ⟨HXP.out.1.block (b9.block _ (wx_lt HXP.out.1)), andThen HXP.out.2 b9⟩
          clear b9 HXP HSG
          obtain ⟨q0, q1, q2, q3⟩ := HX.out.1.cells
          simp only [zeroW] at q0 q1 q2 q3
          have z0 := HX.out.1.frozen 0
          have z1 := HX.out.1.frozen 1
          have z2 := HX.out.1.frozen 2
          have z3 := HX.out.1.frozen 3
          have HEN : Hid (Wx (store4 w9 w.heap.size ⟨4, (i : Int), tx, 0⟩) w.heap.size ⟨4, (i : Int), tx, 0⟩ ∧ Below w.heap.size w (store4 w9 w.heap.size ⟨4, (i : Int), tx, 0⟩)) := ⟨HX.out.1.store _, store4_below HX.out.2 (Nat.le_refl _) _⟩
          clear HX
          go_wp2
          obtain ⟨WE, hWE⟩ : ∃ WE, WE = store4 w9 w.heap.size ⟨4, (i : Int), tx, 0⟩ := ⟨_, rfl⟩
          rw [← hWE] at HEN
          have hWE2 : WE = ((((w9.setCell ⟨w.heap.size, 0, none⟩ (.int .i64 4)).setCell ⟨w.heap.size, 1, none⟩ (.int .i64 (i : Int))).setCell ⟨w.heap.size, 2, none⟩ (.string tx)).setCell ⟨w.heap.size, 3, none⟩ (.int .i64 0)) := hWE
          rw [← hWE2]
          clear hWE hWE2 q0 q1 q2 q3 z0 z1 z2 z3
          obtain ⟨y0, y1, y2, y3⟩ := HEN.out.1.cells
          simp only at y0 y1 y2 y3
          (try simp only [Exit.inBlock, Exit.then])
          refine bodyPost_ret (by simp [results, Tryz.results32, go_sem, y0, y1, y2, y3]; try rfl) rfl ?_
          exact ⟨rfl, HEN.out.2⟩
        | false =>
          have HE : Hid (wordP s i = .inr (if stray s i = true then 21 else 22, (i : Int))) := by
            show _ = _
            unfold wordP
            rw [if_neg (by simp [hl]), if_neg hdn, if_neg h34, if_neg (by simp [hsg])]
          rw [HE.out]
          rw [hsg] at HSG
          rw [hr] at HLT HDG HSG HOD hdl ⊢
          clear hw hr hl hT hH hD hN hval hdn hdg h34 hsg HE
          generalize (if stray s i = true then (21 : Int) else 22) = er at *
          go_enter Tryz.func32, Tryz.ntmps32
          go_wp2_with fail
          refine (HLT.out _ HX0.out.2).mono ?_
          rintro e w1 ⟨rfl, b1⟩
          have HXP : Hid (Wx w1 w.heap.size zeroW ∧ Below w.heap.size w w1) := ⟨HX0.out.1.block (b1.block _ (wx_lt HX0.out.1)), andThen HX0.out.2 b1⟩
          clear b1 HLT HX0
          go_wp2_with fail
          refine (HDG.out _).mono ?_
          rintro e w2 ⟨rfl, rfl⟩
          go_wp2_with fail
          refine (HSG.out _).mono ?_
          rintro e w9 ⟨rfl, b9⟩
          have HX : Hid (Wx w9 w.heap.size zeroW ∧ Below w.heap.size w w9) := ⟨HXP.out.1.block (b9.block _ (wx_lt HXP.out.1)), andThen HXP.out.2 b9⟩
          clear b9 HXP HSG
          go_wp2_with fail
          refine (HOD.out _).mono ?_
          rintro e w10 ⟨rfl, rfl⟩
          clear HOD
          obtain ⟨q0, q1, q2, q3⟩ := HX.out.1.cells
          simp only [zeroW] at q0 q1 q2 q3
          have z0 := HX.out.1.frozen 0
          have z1 := HX.out.1.frozen 1
          have z2 := HX.out.1.frozen 2
          have z3 := HX.out.1.frozen 3
          have HEN : Hid (Wx (store4 w10 w.heap.size ⟨0, 0, ⟨#[]⟩, 0⟩) w.heap.size ⟨0, 0, ⟨#[]⟩, 0⟩ ∧ Below w.heap.size w (store4 w10 w.heap.size ⟨0, 0, ⟨#[]⟩, 0⟩)) := ⟨HX.out.1.store _, store4_below HX.out.2 (Nat.le_refl _) _⟩
          clear HX
          go_wp2
          obtain ⟨WE, hWE⟩ : ∃ WE, WE = store4 w10 w.heap.size ⟨0, 0, ⟨#[]⟩, 0⟩ := ⟨_, rfl⟩
          rw [← hWE] at HEN
          have hWE2 : WE = ((((w10.setCell ⟨w.heap.size, 0, none⟩ (.int .i64 0)).setCell ⟨w.heap.size, 1, none⟩ (.int .i64 0)).setCell ⟨w.heap.size, 2, none⟩ (.string ⟨#[]⟩)).setCell ⟨w.heap.size, 3, none⟩ (.int .i64 0)) := hWE
          rw [← hWE2]
          clear hWE hWE2 q0 q1 q2 q3 z0 z1 z2 z3
          obtain ⟨y0, y1, y2, y3⟩ := HEN.out.1.cells
          simp only at y0 y1 y2 y3
          (try simp only [Exit.inBlock, Exit.then])
          refine bodyPost_ret (by simp [results, Tryz.results32, go_sem, y0, y1, y2, y3]; try rfl) rfl ?_
          exact ⟨rfl, HEN.out.2⟩
end Go.Proofs.YtcnnpohnfoaceaaGreatDoor.Text

/-
  Package text: Words.
-/
namespace Go.Proofs.YtcnnpohnfoaceaaGreatDoor.Text
open Go Go.RowKit
open Tx

def Tx.wdc (d : Wd) : List Value := [.int .i64 d.k, .int .i64 d.at_, .string d.t, .int .i64 d.n]
/-- words in a row of the call's own -/
def WdR (B : Nat) (w : World) (v : Value) (l : List Wd) : Prop := w.ownsRow B 55 4 v l.length (l.flatMap wdc)
theorem infoWd : (Tryz.prog.info? 55).map (fun i => (i.zero, i.size, i.bytes)) = some (some (.agg #[.int .i64 0, .int .i64 0, .string ⟨#[]⟩, .int .i64 0]), 4, 40) := by kernel_rfl
theorem WdR.nil (B : Nat) (w : World) : WdR B w (.slice none 0 0) [] := World.ownsRow_nil _ _ _ _
theorem WdR.block {B : Nat} {w w' : World} {v : Value} {l : List Wd} (h : WdR B w v l) (hg : ∀ g, v.ownBlock = some g → w'.heap[g]? = w.heap[g]?) : WdR B w' v l := by
  unfold WdR at h ⊢
  refine ⟨h.1, ?_⟩
  rcases h.2 with h1 | ⟨g, cap, cur, e, hb, hh, rest⟩
  · exact .inl h1
  · exact .inr ⟨g, cap, cur, e, hb, (hg g (by rw [e]; rfl)).trans hh, rest⟩
theorem WdR.kept {B : Nat} {w w' : World} {v : Value} {l : List Wd} (h : WdR B w v l) (hb : Below w.heap.size w w') : WdR B w' v l := h.block fun g hg => hb.block g (World.ownsRow.lt h g hg).2
theorem WdR.weak {B B2 : Nat} {w : World} {v : Value} {l : List Wd} (h : WdR B2 w v l) (hB : B ≤ B2) : WdR B w v l := by
  unfold WdR at h ⊢
  refine ⟨h.1, ?_⟩
  rcases h.2 with h1 | ⟨g, cap, cur, e, hb, rest⟩
  · exact .inl h1
  · exact .inr ⟨g, cap, cur, e, Nat.le_trans hB hb, rest⟩
theorem WdR.iter {B : Nat} {w : World} {v : Value} {l : List Wd} {k : Nat} (h : WdR B w v l) (hk : k < B) (s : ByteArray) (p : Nat) : WdR B (setIter w k s p) v l := h.block fun g hg => by
  have h9 := (World.ownsRow.lt h g hg).1
  show (w.heap.setIfInBounds k (.stringIter s p))[g]? = w.heap[g]?
  rw [Array.getElem?_setIfInBounds_ne (by omega)]
theorem WdR.shape {B : Nat} {w : World} {v : Value} {l : List Wd} (h : WdR B w v l) : ∃ a, ∃ c : Nat, v = .slice a l.length c := by
  rcases h.2 with ⟨rfl, h1⟩ | ⟨g, cap, cur, rfl, _⟩
  · rw [h1]
    exact ⟨_, _, rfl⟩
  · exact ⟨_, _, rfl⟩
theorem wpList_append_wd {P : Program} (w : World) {ops : Array Oper} {rest : List Oper} {o : Oper} {a : Act} {Q : Exit → Act → World → Prop} (hgd : o.guard = none) (s x : Operand) (t : TypeId)
    (ho : o.op = .call { callee := .builtin .append, args := #[s, x], argTypes := #[t, t] })
    (B : Nat) (hinfo : (P.info? 55).map (fun i => (i.zero, i.size, i.bytes)) = some (some (.agg #[.int .i64 0, .int .i64 0, .string ⟨#[]⟩, .int .i64 0]), 4, 40)) (ht : P.underlying t = some (.slice 55))
    (v : Value) (l : List Wd) (d : Wd) (hv : a.eval s = v) (h : WdR B w v l) (g : Nat) (hx : a.eval x = .slice (some ⟨g, 0, none⟩) 1 1)
    (hc : ∀ j u, (wdc d)[j]? = some u → w.cell? ⟨g, j, none⟩ = some u)
    (hmax : l.length ≤ 2000000) (hB : B ≤ w.heap.size)
    (hK : ∀ v' w', WdR B w' v' (l ++ [d]) → Below B w w' → w.grownBy w' v.ownBlock → wpList P ops Q rest (a.put o.dst v') w') : wpList P ops Q (o :: rest) a w := by
  obtain ⟨i0, hi, hz0, hz1, hz2⟩ := info_parts3 hinfo
  refine wpList_append_own_at w hgd s x t ho B 55 i0 _ 4 40 ht hi hz0 hz1 hz2 rfl (by decide) v l.length (l.flatMap wdc) hv h ⟨g, 0, none⟩ 1 1 (wdc d) hx rfl ?_ ?_ (by unfold maxLen; omega) (by omega) hB ?_
  · intro j u hj
    have := hc j u hj
    rw [Addr.add_lit, Nat.zero_add]
    exact this
  · intro u hu
    simp only [wdc, List.mem_cons, List.not_mem_nil, or_false] at hu
    rcases hu with rfl | rfl | rfl | rfl <;> rfl
  · intro v' w' h2 h3 _ _
    refine hK v' w' ?_ ((Below.refl B w).grown h3 hB (fun k hk => (World.ownsRow.lt h k hk).1)) h3
    show w'.ownsRow B 55 4 v' (l ++ [d]).length ((l ++ [d]).flatMap wdc)
    rw [List.length_append, List.flatMap_append]
    simpa using h2
theorem rune_blk (s : ByteArray) (p : Nat) : blk (Utf8.decode s p).1 = blk (at' s p) ∧ sgn (Utf8.decode s p).1 = sgn (at' s p) ∧ ((Utf8.decode s p).1 = 35 ↔ at' s p = 35) := by
  by_cases h : at' s p < 128
  · rw [dec_asc s p h]
    exact ⟨rfl, rfl, Iff.rfl⟩
  · have h1 : ¬ (Utf8.decode s p).1 < 128 := fun h2 => h (dec_small s p h2).1
    have hb : ∀ c : Nat, ¬ c < 128 → blk c = false ∧ sgn c = false := fun c hc => by
      refine ⟨?_, ?_⟩
      · unfold blk
        rw [decide_eq_false (by omega), decide_eq_false (by omega)]
        rfl
      · cases h9 : sgn c with
        | false => rfl
        | true => exact absurd (sgn_lt h9).1 hc
    rw [(hb _ h).1, (hb _ h).2, (hb _ h1).1, (hb _ h1).2]
    exact ⟨rfl, rfl, by omega⟩
theorem offs_next (s : ByteArray) (p e : Nat) (h : p < s.size) (hpe : p < e) (hm : ∃ m, offs s m p = e) : p + (Utf8.decode s p).2 ≤ e ∧ ∃ m, offs s m (p + (Utf8.decode s p).2) = e := by
  obtain ⟨m, hm⟩ := hm
  cases m with
  | zero => simp [offs] at hm; omega
  | succ m =>
    rw [offs, if_pos h] at hm
    refine ⟨?_, m, hm⟩
    rw [← hm]
    exact (offs_le s m _ (decode_fits s p h).2.1).1
theorem wds_err_nil (s : ByteArray) : ∀ (n i : Nat), s.size - i ≤ n → (wds s i).2.1 ≠ 0 → (wds s i).1 = [] := by
  intro n
  induction n with
  | zero => intro i hi h; rw [wds_out s i (by omega)]
  | succ n ih =>
    intro i hi h
    by_cases hlt : i < s.size
    · by_cases h1 : at' s i = 35
      · rw [wds_hash s i hlt h1]
      · cases h2 : blk (at' s i) with
        | true =>
          rw [wds_blank s i hlt h1 h2] at h ⊢
          exact ih (i + 1) (by omega) h
        | false =>
          cases h3 : wordP s i with
          | inr ep => rw [wds_bad s i hlt h1 h2 ep h3]
          | inl we =>
            obtain ⟨d, e⟩ := we
            rw [wds_word s i hlt h1 h2 d e h3] at h ⊢
            unfold fin at h ⊢
            by_cases h5 : (bhd s d.k e).2.1 = 0
            · rw [if_pos h5] at h
              exact absurd h5 h
            · rw [if_neg h5]
    · rw [wds_out s i hlt]
theorem fin_nil (s : ByteArray) (i : Nat) : fin [] (wds s i) = wds s i := by
  unfold fin
  by_cases h : (wds s i).2.1 = 0
  · rw [if_pos h]
    rfl
  · rw [if_neg h, Prod.ext_iff]
    exact ⟨(wds_err_nil s s.size i (by omega) h).symm, rfl⟩
end Go.Proofs.YtcnnpohnfoaceaaGreatDoor.Text

/-
  Package text: Words, the walk.
-/
namespace Go.Proofs.YtcnnpohnfoaceaaGreatDoor.Text
open Go Go.RowKit
open Tx

/-- what Words answers -/
def Tx.wdA (s : ByteArray) : List Wd × Int × Int := if 65536 < s.size then ([], 2, 65536) else wds s 0
/-- the package's variables that Words reads -/
structure WTab (w : World) : Prop where
  lets : TabP 0 .i32 lets w
  hids : TabP 7 .i32 hids w
  db : w.cell? ⟨9, 15, none⟩ = some (.int .u8 4)
  nt : NTab w
theorem WTab.kept {w w' : World} (h : WTab w) (hb : Below w.heap.size w w') : WTab w' := ⟨h.lets.kept hb, h.hids.kept hb, by rw [← h.db]; exact World.cell?_of_block (hb.block _ (cell_lt h.db)), h.nt.kept hb⟩
/-- where the walk stands: the iterator at p, the last word's end e and kind k -/
def Stg (s : ByteArray) (A : List Wd × Int × Int) (acc : List Wd) (p e : Nat) (k : Int) : Prop :=
  (p ≤ e ∧ e ≤ s.size ∧ (∃ m, offs s m p = e) ∧ fin acc (bhd s k e) = A) ∨ (e < p ∧ fin acc (wds s p) = A)
set_option maxRecDepth 100000 in
set_option maxHeartbeats 8000000 in
theorem words_any (s : ByteArray) (w : World) (hT : WTab w) :
    Calls Tryz.prog 13 #[.string s] w fun e w' => ∃ v, e = .returned (.tuple #[v, .int .i64 (wdA s).2.1, .int .i64 (wdA s).2.2]) ∧ WdR w.heap.size w' v (wdA s).1 ∧ Below w.heap.size w w' := by
  by_cases h6 : 65536 < s.size
  · have HA : Hid (wdA s = ([], 2, 65536)) := by
      show _ = _
      unfold wdA
      rw [if_pos h6]
    rw [HA.out]
    clear HA hT
    go_enter Tryz.func13, Tryz.ntmps13
    go_wp2
    go_ret3
    exact ⟨_, rfl, WdR.nil _ _, Below.refl _ _⟩
  · obtain ⟨A, hA⟩ : ∃ A, wdA s = A := ⟨_, rfl⟩
    have HA : Hid (fin [] (bhd s 4 0) = A) := by
      show _ = _
      rw [← hA]
      unfold wdA bhd
      rw [if_neg h6, if_neg (by simp), fin_nil]
    rw [hA]
    clear hA
    have HTB : Hid (∀ w', Below w.heap.size w w' → WTab w') := fun w' hb => hT.kept hb
    have HI : Hid ((w.iter s 0).heap[w.heap.size]? = some (.stringIter s 0)) := World.iter_heap w s 0
    have HB : Hid (Below w.heap.size w (w.iter s 0)) := up_iter w s 0
    clear hT
    go_enter Tryz.func13, Tryz.ntmps13
    go_wp2
    go_loopw [5, 6, 7] (fun vw ve vk wr => ∃ (p e : Nat) (k : Int) (acc : List Wd), ve = .int .i64 (e : Int) ∧ vk = .int .i64 k ∧ p ≤ s.size ∧ e ≤ s.size ∧ acc.length ≤ p ∧ WdR (w.heap.size + 1) wr vw acc ∧ Stg s A acc p e k ∧ wr.heap[w.heap.size]? = some (.stringIter s p) ∧ Below w.heap.size w wr) (fun _ _ _ wr => s.size - wr.iterPos w.heap.size)
    case atStart => exact ⟨0, 0, 4, [], rfl, rfl, Nat.zero_le _, Nat.zero_le _, Nat.le_refl _, WdR.nil _ _, .inl ⟨Nat.le_refl _, Nat.zero_le _, ⟨0, rfl⟩, HA.out⟩, HI.out, HB.out⟩
    case round =>
      obtain ⟨p, e, k, acc, rfl, rfl, hp, he, hal, hr, hst, hit, hbel⟩ := hrel
      have HPOS : Hid (wr.iterPos w.heap.size = p) := iter_pos hit
      clear HA HI HB
      obtain ⟨aw, cw, ew⟩ := hr.shape
      subst ew
      by_cases hlt : p < s.size
      · have hd := decode_fits s p hlt
        have hnx : ∀ ty, (Instr.next (.pointer (some ⟨w.heap.size, 0, none⟩)) true ty).run Tryz.prog wr = _ := fun ty => run_next_at wr w.heap.size s p ty hit hlt
        have HI2 : Hid ((setIter wr w.heap.size s (p + (Utf8.decode s p).2)).heap[w.heap.size]? = some (.stringIter s (p + (Utf8.decode s p).2))) := iter_at wr w.heap.size s _ _ hit
        have hB2 : Below w.heap.size w (setIter wr w.heap.size s (p + (Utf8.decode s p).2)) := below_iter hbel _ (Nat.le_refl _) s _
        have HR2 : Hid (WdR (w.heap.size + 1) (setIter wr w.heap.size s (p + (Utf8.decode s p).2)) (.slice aw acc.length cw) acc) := hr.iter (Nat.lt_succ_self _) s _
        have hrl := decode_le s p
        have hrv := dec_valid s p
        have hrb := rune_blk s p
        clear hbel hit hr
        generalize setIter wr w.heap.size s (p + (Utf8.decode s p).2) = w2 at *
        have HWD : Hid (∀ w', Below w.heap.size w w' → Calls Tryz.prog 32 #[.string s, .int .i64 (p : Int), .int .i32 ((Utf8.decode s p).1 : Int)] w' fun e w'' => e = .returned (wans (wordP s p)) ∧ Below w'.heap.size w' w'') := fun w' hb => word_any s p w' hlt (by omega) (HTB.out _ hb).lets (HTB.out _ hb).hids (HTB.out _ hb).db (HTB.out _ hb).nt
        have HOD : Hid (∀ w', Calls Tryz.prog 30 #[.string s, .int .i64 (p : Int), .int .i32 ((Utf8.decode s p).1 : Int)] w' fun e w'' => e = .returned (.int .i64 (if stray s p = true then 21 else 22)) ∧ w'' = w') := fun w' => odd_any s p w' hlt
        have HPT : Hid (∀ w', Calls Tryz.prog 29 #[.int .i32 ((Utf8.decode s p).1 : Int)] w' fun e w'' => e = .returned (.bool (blk (at' s p) || sgn (at' s p))) ∧ Below w'.heap.size w' w'') := fun w' => by
          have h9 := parts_any (Utf8.decode s p).1 w' hrv
          rw [hrb.1, hrb.2.1] at h9
          exact h9
        have HBK : Hid (∀ w', Calls Tryz.prog 31 #[.int .i32 ((Utf8.decode s p).1 : Int)] w' fun e w'' => e = .returned (.bool (blk (at' s p))) ∧ Below w'.heap.size w' w'') := fun w' => by
          have h9 := blank_any (Utf8.decode s p).1 w'
          rw [hrb.1] at h9
          exact h9
        have h35 : (Utf8.decode s p).1 = 35 ↔ at' s p = 35 := hrb.2.2
        have HB1 : Hid (blk (at' s p) = true → (Utf8.decode s p).2 = 1) := fun h => by
          have h9 : at' s p < 128 := by
            unfold blk at h
            simp at h
            omega
          rw [dec_asc s p h9]
        clear hrv hrb
        obtain ⟨r, hr⟩ : ∃ r : Nat, (Utf8.decode s p).1 = r := ⟨_, rfl⟩
        rw [hr] at hnx HWD HOD HPT HBK hrl h35
        clear hr
        by_cases hpe : p < e
        · have HS : Hid (Stg s A acc (p + (Utf8.decode s p).2) e k) := by
            rcases hst with ⟨h1, h2, h3, h4⟩ | ⟨h1, _⟩
            · have h9 := offs_next s p e hlt hpe h3
              exact .inl ⟨h9.1, h2, h9.2, h4⟩
            · omega
          clear hst HWD HOD HPT HBK h35 HB1
          generalize (Utf8.decode s p).2 = wd at *
          go_wp2
          go_roundw
          case rel => exact ⟨p + wd, e, k, acc, rfl, rfl, by omega, he, by omega, HR2.out, HS.out, HI2.out, hB2⟩
          case measure => rw [iter_pos HI2.out, HPOS.out]; omega
        · by_cases hr35 : r = 35
          · have HF : Hid (A = (acc, 0, 0)) := by
              have ha := h35.1 hr35
              have hw := wds_hash s p hlt ha
              show A = _
              rcases hst with ⟨h1, h2, h3, h4⟩ | ⟨h1, h4⟩
              · obtain rfl : p = e := by omega
                rw [← h4]
                unfold bhd
                rw [if_neg (by simp [ha]), hw]
                unfold fin
                simp
              · rw [← h4, hw]
                unfold fin
                simp
            subst hr35
            clear hst HWD HOD HPT HBK h35 HB1
            go_wp2
            go_ret3
            rw [HF.out]
            exact ⟨_, rfl, HR2.out.weak (by omega), hB2⟩
          · have ha35 : ¬ at' s p = 35 := fun e => hr35 (h35.2 e)
            have hr35' : ((r : Int) == 35) = false := by simp; omega
            clear h35
            go_upto_region 10 with fail
            have HBD : Hid (¬ (p = e ∧ k ≠ 4 ∧ blk (at' s p) = false ∧ sgn (at' s p) = false) → fin acc (wds s p) = A) := fun hb => by
              rcases hst with ⟨h1, h2, h3, h4⟩ | ⟨h1, h4⟩
              · obtain rfl : p = e := by omega
                rw [← h4]
                unfold bhd
                rw [if_neg (fun h => hb ⟨rfl, h.1, h.2.2.2.1, h.2.2.2.2⟩)]
              · exact h4
            have HBE : Hid ((p = e ∧ k ≠ 4 ∧ blk (at' s p) = false ∧ sgn (at' s p) = false) → A = ([], if stray s p = true then 21 else 22, (p : Int))) := fun hb => by
              rcases hst with ⟨h1, h2, h3, h4⟩ | ⟨h1, h4⟩
              · obtain rfl : p = e := by omega
                have her : ¬ (if stray s p = true then (21 : Int) else 22) = 0 := by split <;> decide
                rw [← h4, bhd_err s k p ⟨hb.2.1, hlt, ha35, hb.2.2.1, hb.2.2.2⟩]
                unfold fin
                simp only
                generalize (if stray s p = true then (21 : Int) else 22) = er at *
                rw [if_neg her]
              · omega
            clear hst
            go_cut [38] from 18 to 64 (fun c wx => c = .bool (decide (p = e ∧ k ≠ 4 ∧ blk (at' s p) = false ∧ sgn (at' s p) = false)) ∧ WdR (w.heap.size + 1) wx (.slice aw acc.length cw) acc ∧ wx.heap[w.heap.size]? = some (.stringIter s (p + (Utf8.decode s p).2)) ∧ Below w.heap.size w wx)
            case first =>
              by_cases hq : p = e
              · subst hq
                by_cases h4 : k = 4
                · subst h4
                  go_wp2_with fail
                  go_meet
                  exact ⟨congrArg Value.bool (decide_eq_false (by simp)).symm, HR2.out, HI2.out, hB2⟩
                · have b4 : (k != 4) = true := by simp [h4]
                  go_wp2_with fail
                  refine (HPT.out _).mono ?_
                  rintro e w3 ⟨rfl, b3⟩
                  go_wp2_with fail
                  go_meet
                  refine ⟨congrArg Value.bool ?_, HR2.out.kept b3, ?_, andThen hB2 b3⟩
                  · cases hb : blk (at' s p) <;> cases hg : sgn (at' s p) <;> simp [h4]
                  · rw [b3.block w.heap.size (Array.getElem?_eq_some_iff.1 HI2.out).1]
                    exact HI2.out
              · have b1 : ((p : Int) == (e : Int)) = false := by simp; omega
                go_wp2_with fail
                go_meet
                exact ⟨congrArg Value.bool (decide_eq_false (fun h => hq h.1)).symm, HR2.out, HI2.out, hB2⟩
            case rest =>
              obtain ⟨rfl, hr3, hi3, hb3⟩ := hcut
              clear HR2 HI2 hB2 HPT
              generalize wc = w3 at *
              have HR3 : Hid (WdR (w.heap.size + 1) w3 (.slice aw acc.length cw) acc) := hr3
              have HI3 : Hid (w3.heap[w.heap.size]? = some (.stringIter s (p + (Utf8.decode s p).2))) := hi3
              clear hr3 hi3
              by_cases hbad : p = e ∧ k ≠ 4 ∧ blk (at' s p) = false ∧ sgn (at' s p) = false
              · have HF : Hid (A = ([], if stray s p = true then 21 else 22, (p : Int))) := HBE.out hbad
                have dbad : decide (p = e ∧ k ≠ 4 ∧ blk (at' s p) = false ∧ sgn (at' s p) = false) = true := decide_eq_true hbad
                rw [dbad]
                clear HBE HBD hbad dbad HWD HBK HB1
                generalize (if stray s p = true then (21 : Int) else 22) = er at *
                go_wp2_with fail
                refine (HOD.out _).mono ?_
                rintro e w4 ⟨rfl, rfl⟩
                go_wp2
                go_ret3
                rw [HF.out]
                exact ⟨_, rfl, WdR.nil _ _, hb3⟩
              · have HG : Hid (fin acc (wds s p) = A) := HBD.out hbad
                have dbad : decide (p = e ∧ k ≠ 4 ∧ blk (at' s p) = false ∧ sgn (at' s p) = false) = false := decide_eq_false hbad
                rw [dbad]
                clear HBE HBD hbad dbad HOD
                cases hbk : blk (at' s p) with
                | true =>
                  rw [hbk] at HBK
                  have hw1 := HB1.out hbk
                  have HS : Hid (Stg s A acc (p + 1) e k) := .inr ⟨by omega, by rw [← wds_blank s p hlt ha35 hbk]; exact HG.out⟩
                  rw [hw1] at HI3 hd
                  clear hw1 HB1 HWD HG hbk
                  go_wp2_with fail
                  refine (HBK.out _).mono ?_
                  rintro e w4 ⟨rfl, b4⟩
                  have HX : Hid (WdR (w.heap.size + 1) w4 (.slice aw acc.length cw) acc ∧ w4.heap[w.heap.size]? = some (.stringIter s (p + 1)) ∧ Below w.heap.size w w4) := ⟨HR3.out.kept b4, by
                    rw [b4.block w.heap.size (Array.getElem?_eq_some_iff.1 HI3.out).1]
                    exact HI3.out, andThen hb3 b4⟩
                  clear b4 hb3 HR3 HI3 HBK
                  go_wp2
                  go_roundw
                  case rel => exact ⟨p + 1, e, k, acc, rfl, rfl, by omega, he, by omega, HX.out.1, HS.out, HX.out.2.1, HX.out.2.2⟩
                  case measure => rw [iter_pos HX.out.2.1, HPOS.out]; omega
                | false =>
                  rw [hbk] at HBK
                  have HWR : Hid (∀ d en, wordP s p = .inl (d, en) → p < en ∧ en ≤ s.size ∧ Stg s A (acc ++ [d]) (p + (Utf8.decode s p).2) en d.k) := fun d en h => by
                    have h9 := word_end s p hlt d en h
                    have h8 := offs_next s p en hlt h9.1 h9.2.2
                    refine ⟨h9.1, h9.2.1, .inl ⟨h8.1, h9.2.1, h8.2, ?_⟩⟩
                    rw [← HG.out, wds_word s p hlt ha35 hbk d en h, fin_fin]
                  have HWE : Hid (∀ er pl, wordP s p = .inr (er, pl) → A = ([], er, pl) ∧ er ≠ 0) := fun er pl h => by
                    have h9 := wordP_err s p _ h
                    refine ⟨?_, h9⟩
                    rw [← HG.out, wds_bad s p hlt ha35 hbk _ h]
                    unfold fin
                    rw [if_neg h9]
                  clear HG HB1 hbk
                  go_wp2_with fail
                  refine (HBK.out _).mono ?_
                  rintro e w4 ⟨rfl, b4⟩
                  have HX : Hid (WdR (w.heap.size + 1) w4 (.slice aw acc.length cw) acc ∧ w4.heap[w.heap.size]? = some (.stringIter s (p + (Utf8.decode s p).2)) ∧ Below w.heap.size w w4) := ⟨HR3.out.kept b4, by
                    rw [b4.block w.heap.size (Array.getElem?_eq_some_iff.1 HI3.out).1]
                    exact HI3.out, andThen hb3 b4⟩
                  clear b4 hb3 HR3 HI3 HBK
                  generalize (Utf8.decode s p).2 = wd at *
                  cases hwp : wordP s p with
                  | inr ep =>
                    obtain ⟨er, pl⟩ := ep
                    rw [hwp] at HWD
                    obtain ⟨hAe, hne⟩ := HWE.out er pl hwp
                    have HF : Hid (A = ([], er, pl)) := hAe
                    have hne' : (er != 0) = true := by simp [hne]
                    unfold wans wdv zeroW at HWD
                    simp only at HWD
                    clear hAe HWE HWR hwp
                    go_wp2_with fail
                    refine (HWD.out _ HX.out.2.2).mono ?_
                    rintro e w5 ⟨rfl, b5⟩
                    have HB5 : Hid (∀ o, Below w.heap.size w (w5.alloc o)) := fun o => up (andThen HX.out.2.2 b5) o
                    clear b5 HX HWD
                    go_wp2
                    go_ret3
                    rw [HF.out]
                    exact ⟨_, rfl, WdR.nil _ _, HB5.out _⟩
                  | inl de =>
                    obtain ⟨d, en⟩ := de
                    rw [hwp] at HWD
                    obtain ⟨hen1, hen2, hst2⟩ := HWR.out d en hwp
                    have HS : Hid (Stg s A (acc ++ [d]) (p + wd) en d.k) := hst2
                    unfold wans wdv at HWD
                    simp only at HWD
                    clear hst2 HWE HWR hwp
                    go_wp2_with fail
                    refine (HWD.out _ HX.out.2.2).mono ?_
                    rintro e w5 ⟨rfl, b5⟩
                    have HY : Hid (WdR (w.heap.size + 1) w5 (.slice aw acc.length cw) acc ∧ w5.heap[w.heap.size]? = some (.stringIter s (p + wd)) ∧ Below w.heap.size w w5) := ⟨HX.out.1.kept b5, by
                      rw [b5.block w.heap.size (Array.getElem?_eq_some_iff.1 HX.out.2.1).1]
                      exact HX.out.2.1, andThen HX.out.2.2 b5⟩
                    clear b5 HX HWD
                    go_upto_region 16 with fail
                    obtain ⟨WX, hWX⟩ : ∃ WX, WX = w5.alloc (.cells #[.int .i64 d.k, .int .i64 d.at_, .string d.t, .int .i64 d.n] 55) := ⟨_, rfl⟩
                    have hx0 : Wx WX w5.heap.size d := by rw [hWX]; exact wx_new w5 d 55
                    have hx1 : WdR (w.heap.size + 1) WX (.slice aw acc.length cw) acc := by rw [hWX]; exact HY.out.1.kept (up0 _ _)
                    have hi5 := (Array.getElem?_eq_some_iff.1 HY.out.2.1).1
                    have hx2 : WX.heap[w.heap.size]? = some (.stringIter s (p + wd)) := by
                      rw [hWX, (up0 w5 _).block w.heap.size hi5]
                      exact HY.out.2.1
                    have hx3 : Below w.heap.size w WX := by rw [hWX]; exact up HY.out.2.2 _
                    have hx4 : ∀ q, (Value.slice aw acc.length cw).ownBlock = some q → q < w5.heap.size := fun q hq => (World.ownsRow.lt HY.out.1 q hq).2
                    have hx5 : WX.heap.size = w5.heap.size + 1 := by rw [hWX, heapW]
                    rw [← hWX]
                    obtain ⟨gX, hgX⟩ : ∃ gX, gX = w5.heap.size := ⟨_, rfl⟩
                    rw [← hgX] at hx0 hx4 hx5 hi5 ⊢
                    have HZ : Hid (∀ o, WdR (w.heap.size + 1) (WX.alloc o) (.slice aw acc.length cw) acc ∧ w.heap.size + 1 ≤ (WX.alloc o).heap.size ∧ (WX.alloc o).heap[w.heap.size]? = some (.stringIter s (p + wd)) ∧ Below w.heap.size w (WX.alloc o) ∧ Wx (WX.alloc o) gX d ∧ gX < (WX.alloc o).heap.size) := fun o => by
                      refine ⟨hx1.kept (up0 _ _), ?_, ?_, up hx3 o, hx0.block ((up0 WX o).block gX (by omega)), ?_⟩
                      · rw [heapW]; omega
                      · rw [(up0 WX o).block w.heap.size (by omega)]
                        exact hx2
                      · rw [heapW]; omega
                    have HCC : Hid (∀ t j u, (wdc d)[j]? = some u → (WX.alloc (.cells #[.int .i64 d.k, .int .i64 d.at_, .string d.t, .int .i64 d.n] t)).cell? ⟨WX.heap.size, j, none⟩ = some u) := fun t j u hj => by
                      rw [World.cell?_alloc_new]
                      simpa [wdc] using hj
                    have HOB : Hid (∀ q, (Value.slice aw acc.length cw).ownBlock = some q → q < gX) := hx4
                    obtain ⟨q0, q1, q2, q3⟩ := hx0.cells
                    clear hWX hgX hx0 hx1 hx2 hx3 hx4 hx5 hi5 HY
                    go_wp2_with (at_builtin; refine wpList_append_wd _ rfl (.tmp 58) (.tmp 60) 38 rfl (w.heap.size + 1) infoWd Tryz.underlying38 _ acc d rfl (HZ.out _).1 _ rfl (HCC.out _) (by omega) (HZ.out _).2.1 ?_)
                    intro v6 w6 hr6 hb6 hg6
                    have hz := HZ.out (.cells #[.int .i64 d.k, .int .i64 d.at_, .string d.t, .int .i64 d.n] 55)
                    have hx6 : Wx w6 gX d := hz.2.2.2.2.1.block (hg6.block gX hz.2.2.2.2.2 (fun e => by have := HOB.out gX e.symm; omega))
                    have HN : Hid (∀ n, WdR (w.heap.size + 1) (w6.drewN n) v6 (acc ++ [d]) ∧ (w6.drewN n).heap[w.heap.size]? = some (.stringIter s (p + wd)) ∧ Below w.heap.size w (w6.drewN n)) := fun n => by
                      have hb : Below w6.heap.size w6 (w6.drewN n) := below_drewN (Below.refl _ _) n
                      have hi6 : w6.heap[w.heap.size]? = some (.stringIter s (p + wd)) := (hb6.block w.heap.size (Nat.lt_succ_self _)).trans hz.2.2.1
                      have hl6 := (Array.getElem?_eq_some_iff.1 hi6).1
                      refine ⟨hr6.kept hb, (hb.block _ hl6).trans hi6, ?_⟩
                      exact (hz.2.2.2.1.trans (hb6.mono (Nat.le_succ _))).trans (hb.mono (by omega))
                    obtain ⟨y0, _, _, _⟩ := hx6.cells
                    clear hr6 hb6 hg6 hz hx6 HZ HCC HOB q0 q1 q2 q3
                    go_wp2
                    go_quiet (fail)
                    go_wp2
                    go_roundw
                    case rel => exact ⟨p + wd, en, d.k, acc ++ [d], rfl, rfl, by omega, hen2, by rw [List.length_append]; simp; omega, (HN.out _).1, HS.out, (HN.out _).2.1, (HN.out _).2.2⟩
                    case measure => rw [iter_pos (HN.out _).2.1, HPOS.out]; omega
      · have hnx : ∀ ty, (Instr.next (.pointer (some ⟨w.heap.size, 0, none⟩)) true ty).run Tryz.prog wr = _ := fun ty => run_next_over wr w.heap.size s p ty hit hlt
        have HF : Hid (A = (acc, 0, 0)) := by
          show A = _
          rcases hst with ⟨h1, h2, h3, h4⟩ | ⟨h1, h4⟩
          · rw [← h4]
            unfold bhd
            rw [if_neg (by omega), wds_out s e (by omega)]
            unfold fin
            simp
          · rw [← h4, wds_out s p hlt]
            unfold fin
            simp
        have HR : Hid (WdR (w.heap.size + 1) wr (.slice aw acc.length cw) acc) := hr
        clear hit hst hr
        go_wp2
        go_ret3
        rw [HF.out]
        exact ⟨_, rfl, HR.out.weak (by omega), hbel⟩
end Go.Proofs.YtcnnpohnfoaceaaGreatDoor.Text
