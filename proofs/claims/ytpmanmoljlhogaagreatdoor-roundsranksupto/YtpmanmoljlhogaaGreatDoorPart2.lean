/- Texts of this claim, joined: Shelf, SoInts, RoSig, RoSig2, RoPart, SyTab0. -/
import Derived.Shelf.Small.Bits
import Derived.Shelf.Small.Wraps
import Derived.Shelf.Strconv.Itoa0
import Derived.Shelf.Strconv.Itoa1
import Derived.Shelf.LaysM
import Derived.Shelf.Strconv.Itoa2
import Derived.Shelf.Sort.Plain
import Derived.Shelf.Strconv.AppendUint10
import Derived.Shelf.Strconv.AppendInt10
import Derived.Shelf.Strconv.AppendIntPublic10
import Derived.Shelf.Bits.Mul64
import Derived.Ground.Names2Prog
import Derived.Shelf.Slices.CompactI
import Derived.Test.YtpmanmoljlhogaaGreatDoorProg
import Derived.Test.YtpmanmoljlhogaaGreatDoorPart0
import Derived.Sort.OwnSortedInts
import Derived.Test.YtpmanmoljlhogaaGreatDoorPart1
import Derived.Laws.IdiomStrings
import Derived.Lib.AppendIntMem
import Derived.WalkSmall
import Derived.Deep.RegionHeld3
import Derived.Deep.DrawnRows
import Derived.Maps.OwnSet
/- Contracts of three functions of Go's library at this program, laid by the shelf's own tools in plain words. -/
namespace Go.Proofs
open Go.Shelf
def Tryz.lays128_ren : Go.Shelf.Ren := ⟨fun | 128 => 196 | n => n, fun | 51 => 200 | 3 => 3 | 4 => 4 | 46 => 158 | 5 => 5 | 9 => 9 | n => n, fun | n => n⟩
theorem Tryz.lays128 : Go.Proofs.Lays.n128 Tryz.prog Tryz.lays128_ren := {
  mixed := by kernel_rfl
  f128 := Tryz.func196.trans (congrArg some (by kernel_rfl))
  t3 := Tryz.underlying3
  a3 := Tryz.isAgg3
  z3 := Tryz.sizeOf3
  v3 := Tryz.zeroValue3
  t4 := Tryz.underlying4
  a4 := Tryz.isAgg4
  z4 := Tryz.sizeOf4
  v4 := Tryz.zeroValue4
  t5 := Tryz.underlying5
  a5 := Tryz.isAgg5
  z5 := Tryz.sizeOf5
  v5 := Tryz.zeroValue5
  t9 := Tryz.underlying9
  a9 := Tryz.isAgg9
  z9 := Tryz.sizeOf9
  v9 := Tryz.zeroValue9
  t46 := Tryz.underlying158
  a46 := Tryz.isAgg158
  z46 := Tryz.sizeOf158
  v46 := Tryz.zeroValue158
  t51 := Tryz.underlying200
  a51 := Tryz.isAgg200
  z51 := Tryz.sizeOf200
  v51 := Tryz.zeroValue200 }
theorem Tryz.bits_Len32 (x : Int) (w : World) (h0 : 0 ≤ x) (h1 : x ≤ 4294967295) :
    Calls Tryz.prog 196 #[.int .u32 x] w fun e w' => e = .returned (.int .i64 (Lib.bitLen x.toNat)) ∧ w' = w := Any.bits_Len32 Tryz.lays128 x w h0 h1
def Tryz.lays125_ren : Go.Shelf.Ren := ⟨fun | 125 => 176 | 128 => 196 | 129 => 197 | n => n, fun | 46 => 158 | 3 => 3 | 51 => 200 | 53 => 203 | 4 => 4 | 5 => 5 | 9 => 9 | n => n, fun | n => n⟩
theorem Tryz.lays125 : Go.Proofs.Lays.n125 Tryz.prog Tryz.lays125_ren := {
  mixed := by kernel_rfl
  f125 := Tryz.func176.trans (congrArg some (by kernel_rfl))
  f128 := Tryz.func196.trans (congrArg some (by kernel_rfl))
  f129 := Tryz.func197.trans (congrArg some (by kernel_rfl))
  t3 := Tryz.underlying3
  a3 := Tryz.isAgg3
  z3 := Tryz.sizeOf3
  v3 := Tryz.zeroValue3
  t4 := Tryz.underlying4
  a4 := Tryz.isAgg4
  z4 := Tryz.sizeOf4
  v4 := Tryz.zeroValue4
  t5 := Tryz.underlying5
  a5 := Tryz.isAgg5
  z5 := Tryz.sizeOf5
  v5 := Tryz.zeroValue5
  t9 := Tryz.underlying9
  a9 := Tryz.isAgg9
  z9 := Tryz.sizeOf9
  v9 := Tryz.zeroValue9
  t46 := Tryz.underlying158
  a46 := Tryz.isAgg158
  z46 := Tryz.sizeOf158
  v46 := Tryz.zeroValue158
  t51 := Tryz.underlying200
  a51 := Tryz.isAgg200
  z51 := Tryz.sizeOf200
  v51 := Tryz.zeroValue200
  t53 := Tryz.underlying203
  a53 := Tryz.isAgg203
  z53 := Tryz.sizeOf203
  v53 := Tryz.zeroValue203 }
theorem Tryz.bits_Len (x : Int) (w : World) (h0 : 0 ≤ x) (h1 : x ≤ 18446744073709551615) :
    Calls Tryz.prog 176 #[.int .u64 x] w fun e w' => e = .returned (.int .i64 (Lib.bitLen x.toNat)) ∧ w' = w := Any.bits_Len Tryz.lays125 x w h0 h1
def Tryz.lays215_ren : Go.Shelf.Ren := ⟨fun | 215 => 181 | n => n, fun | 3 => 3 | 4 => 4 | n => n, fun | n => n⟩
theorem Tryz.lays215 : Go.Proofs.Lays.n215 Tryz.prog Tryz.lays215_ren := {
  mixed := by kernel_rfl
  f215 := Tryz.func181.trans (congrArg some (by kernel_rfl))
  t3 := Tryz.underlying3
  a3 := Tryz.isAgg3
  z3 := Tryz.sizeOf3
  v3 := Tryz.zeroValue3
  t4 := Tryz.underlying4
  a4 := Tryz.isAgg4
  z4 := Tryz.sizeOf4
  v4 := Tryz.zeroValue4 }
open Go.RowKit in
theorem Tryz.cmp_isNaN_int (x : Int) (w : World) :
    Calls Tryz.prog 181 #[.int .i64 x] w fun e w' => e = .returned (.bool false) ∧ w' = w := Any.cmp_isNaN_int Tryz.lays215 x w
def Tryz.lays122_ren : Go.Shelf.Ren := ⟨fun | 122 => 159 | 215 => 181 | n => n, fun | 3 => 3 | 4 => 4 | n => n, fun | n => n⟩
theorem Tryz.lays122 : Go.Proofs.Lays.n122 Tryz.prog Tryz.lays122_ren := {
  mixed := by kernel_rfl
  f122 := Tryz.func159.trans (congrArg some (by kernel_rfl))
  f215 := Tryz.func181.trans (congrArg some (by kernel_rfl))
  t3 := Tryz.underlying3
  a3 := Tryz.isAgg3
  z3 := Tryz.sizeOf3
  v3 := Tryz.zeroValue3
  t4 := Tryz.underlying4
  a4 := Tryz.isAgg4
  z4 := Tryz.sizeOf4
  v4 := Tryz.zeroValue4 }
open Go.RowKit in
theorem Tryz.cmp_Compare_int (x y : Int) (w : World) :
    Calls Tryz.prog 159 #[.int .i64 x, .int .i64 y] w fun e w' => e = .returned (.int .i64 (Lib.compareInt x y)) ∧ w' = w := Any.cmp_Compare_int Tryz.lays122 x y w
def Tryz.lays129_ren : Go.Shelf.Ren := ⟨fun | 129 => 197 | n => n, fun | 53 => 203 | 3 => 3 | 4 => 4 | 46 => 158 | 5 => 5 | 9 => 9 | n => n, fun | n => n⟩
theorem Tryz.lays129 : Go.Proofs.Lays.n129 Tryz.prog Tryz.lays129_ren := {
  mixed := by kernel_rfl
  f129 := Tryz.func197.trans (congrArg some (by kernel_rfl))
  t3 := Tryz.underlying3
  a3 := Tryz.isAgg3
  z3 := Tryz.sizeOf3
  v3 := Tryz.zeroValue3
  t4 := Tryz.underlying4
  a4 := Tryz.isAgg4
  z4 := Tryz.sizeOf4
  v4 := Tryz.zeroValue4
  t5 := Tryz.underlying5
  a5 := Tryz.isAgg5
  z5 := Tryz.sizeOf5
  v5 := Tryz.zeroValue5
  t9 := Tryz.underlying9
  a9 := Tryz.isAgg9
  z9 := Tryz.sizeOf9
  v9 := Tryz.zeroValue9
  t46 := Tryz.underlying158
  a46 := Tryz.isAgg158
  z46 := Tryz.sizeOf158
  v46 := Tryz.zeroValue158
  t53 := Tryz.underlying203
  a53 := Tryz.isAgg203
  z53 := Tryz.sizeOf203
  v53 := Tryz.zeroValue203 }
theorem Tryz.bits_Len64 (x : Int) (w : World) (h0 : 0 ≤ x) (h1 : x ≤ 18446744073709551615) :
    Calls Tryz.prog 197 #[.int .u64 x] w fun e w' => e = .returned (.int .i64 (Lib.bitLen x.toNat)) ∧ w' = w := Any.bits_Len64 Tryz.lays129 x w h0 h1
def Tryz.lays317_ren : Go.Shelf.Ren := ⟨fun | 317 => 228 | n => n, fun | 3 => 3 | 46 => 158 | n => n, fun | n => n⟩
theorem Tryz.lays317 : Go.Proofs.Lays.n317 Tryz.prog Tryz.lays317_ren := {
  mixed := by kernel_rfl
  f317 := Tryz.func228.trans (congrArg some (by kernel_rfl))
  t3 := Tryz.underlying3
  a3 := Tryz.isAgg3
  z3 := Tryz.sizeOf3
  v3 := Tryz.zeroValue3
  t46 := Tryz.underlying158
  a46 := Tryz.isAgg158
  z46 := Tryz.sizeOf158
  v46 := Tryz.zeroValue158 }
open Go.Lib in
theorem Tryz.internal_strconv_log10Pow2 (x : Nat) (h : x ≤ 64) (w : World) :
    Calls Tryz.prog 228 #[.int .i64 x] w fun e w' => e = .returned (.int .i64 (Lib.l10 x)) ∧ w' = w := Any.internal_strconv_log10Pow2 Tryz.lays317 x h w
def Tryz.lays318_ren : Go.Shelf.Ren := ⟨fun | 318 => 229 | n => n, fun | 3 => 3 | 4 => 4 | n => n, fun | n => n⟩
theorem Tryz.lays318 : Go.Proofs.Lays.n318 Tryz.prog Tryz.lays318_ren := {
  mixed := by kernel_rfl
  f318 := Tryz.func229.trans (congrArg some (by kernel_rfl))
  t3 := Tryz.underlying3
  a3 := Tryz.isAgg3
  z3 := Tryz.sizeOf3
  v3 := Tryz.zeroValue3
  t4 := Tryz.underlying4
  a4 := Tryz.isAgg4
  z4 := Tryz.sizeOf4
  v4 := Tryz.zeroValue4 }
open Go.Lib in
theorem Tryz.internal_strconv_bool2_int (b : Bool) (w : World) :
    Calls Tryz.prog 229 #[.bool b] w fun e w' => e = .returned (.int .i64 (if b then 1 else 0)) ∧ w' = w := Any.internal_strconv_bool2_int Tryz.lays318 b w
def Tryz.lays283_ren : Go.Shelf.Ren := ⟨fun | 283 => 220 | n => n, fun | 3 => 3 | 9 => 9 | 4 => 4 | n => n, fun | n => n⟩
theorem Tryz.lays283 : Go.Proofs.Lays.n283 Tryz.prog Tryz.lays283_ren := {
  mixed := by kernel_rfl
  f283 := Tryz.func220.trans (congrArg some (by kernel_rfl))
  t3 := Tryz.underlying3
  a3 := Tryz.isAgg3
  z3 := Tryz.sizeOf3
  v3 := Tryz.zeroValue3
  t4 := Tryz.underlying4
  a4 := Tryz.isAgg4
  z4 := Tryz.sizeOf4
  v4 := Tryz.zeroValue4
  t9 := Tryz.underlying9
  a9 := Tryz.isAgg9
  z9 := Tryz.sizeOf9
  v9 := Tryz.zeroValue9 }
open Go.Lib in
theorem Tryz.internal_strconv_small (i : Nat) (h : i < 100) (w : World) :
    Calls Tryz.prog 220 #[.int .i64 i] w fun e w' => e = .returned (.string ⟨(Lib.decDigits i).toArray⟩) ∧ w' = w := Any.internal_strconv_small Tryz.lays283 i h w
def Tryz.laysM284_ren : Go.Shelf.Ren := ⟨fun | 284 => 221 | 129 => 197 | 317 => 228 | 318 => 229 | n => n, fun | 53 => 203 | 3 => 3 | 212 => 301 | 0 => 0 | 4 => 4 | 46 => 158 | 5 => 5 | 9 => 9 | n => n, fun | 17 => 20 | n => n⟩
theorem Tryz.laysM284 : Go.Proofs.LaysM.n284 Tryz.prog Tryz.laysM284_ren := {
  mixed := by kernel_rfl
  f129 := Tryz.func197.trans (congrArg some (by kernel_rfl))
  f284 := Tryz.func221.trans (congrArg some (by kernel_rfl))
  f317 := Tryz.func228.trans (congrArg some (by kernel_rfl))
  f318 := Tryz.func229.trans (congrArg some (by kernel_rfl))
  t0 := Tryz.underlying0
  a0 := Tryz.isAgg0
  z0 := Tryz.sizeOf0
  v0 := Tryz.zeroValue0
  t3 := Tryz.underlying3
  a3 := Tryz.isAgg3
  z3 := Tryz.sizeOf3
  v3 := Tryz.zeroValue3
  t4 := Tryz.underlying4
  a4 := Tryz.isAgg4
  z4 := Tryz.sizeOf4
  v4 := Tryz.zeroValue4
  t5 := Tryz.underlying5
  a5 := Tryz.isAgg5
  z5 := Tryz.sizeOf5
  v5 := Tryz.zeroValue5
  t9 := Tryz.underlying9
  a9 := Tryz.isAgg9
  z9 := Tryz.sizeOf9
  v9 := Tryz.zeroValue9
  t46 := Tryz.underlying158
  a46 := Tryz.isAgg158
  z46 := Tryz.sizeOf158
  v46 := Tryz.zeroValue158
  t53 := Tryz.underlying203
  a53 := Tryz.isAgg203
  z53 := Tryz.sizeOf203
  v53 := Tryz.zeroValue203
  t212 := Tryz.underlying301
  a212 := Tryz.isAgg301
  z212 := Tryz.sizeOf301
  v212 := Tryz.zeroValue301
  g17 := by kernel_rfl
  i0 := by kernel_rfl
  i3 := by kernel_rfl
  i4 := by kernel_rfl
  i5 := by kernel_rfl
  i9 := by kernel_rfl
  i46 := by kernel_rfl
  i53 := by kernel_rfl
  i212 := by kernel_rfl
  m17 := by kernel_rfl }
open Go.Lib in
theorem Tryz.internal_strconv_numDigits (u : Nat) (h1 : 1 ≤ u) (h2 : u < 18446744073709551616) (w : World) (htab : Lib.TabIs Tryz.prog w "internal/strconv.uint64pow10" .u64 Lib.pow10Tab) :
    Calls Tryz.prog 221 #[.int .u64 u] w fun e w' => e = .returned (.int .i64 (Lib.nDigits u)) ∧ w' = w := Any.internal_strconv_numDigits Tryz.laysM284 u h1 h2 w htab
def Tryz.lays285_ren : Go.Shelf.Ren := ⟨fun | 285 => 222 | n => n, fun | 37 => 188 | 53 => 203 | 3 => 3 | 4 => 4 | 51 => 200 | 9 => 9 | 5 => 5 | 0 => 0 | n => n, fun | n => n⟩
theorem Tryz.lays285 : Go.Proofs.Lays.n285 Tryz.prog Tryz.lays285_ren := {
  mixed := by kernel_rfl
  f285 := Tryz.func222.trans (congrArg some (by kernel_rfl))
  t0 := Tryz.underlying0
  a0 := Tryz.isAgg0
  z0 := Tryz.sizeOf0
  v0 := Tryz.zeroValue0
  t3 := Tryz.underlying3
  a3 := Tryz.isAgg3
  z3 := Tryz.sizeOf3
  v3 := Tryz.zeroValue3
  t4 := Tryz.underlying4
  a4 := Tryz.isAgg4
  z4 := Tryz.sizeOf4
  v4 := Tryz.zeroValue4
  t5 := Tryz.underlying5
  a5 := Tryz.isAgg5
  z5 := Tryz.sizeOf5
  v5 := Tryz.zeroValue5
  t9 := Tryz.underlying9
  a9 := Tryz.isAgg9
  z9 := Tryz.sizeOf9
  v9 := Tryz.zeroValue9
  t37 := Tryz.underlying188
  a37 := Tryz.isAgg188
  z37 := Tryz.sizeOf188
  v37 := Tryz.zeroValue188
  t51 := Tryz.underlying200
  a51 := Tryz.isAgg200
  z51 := Tryz.sizeOf200
  v51 := Tryz.zeroValue200
  t53 := Tryz.underlying203
  a53 := Tryz.isAgg203
  z53 := Tryz.sizeOf203
  v53 := Tryz.zeroValue203 }
open Go.RowKit Go.Sort Go.Lib in
theorem Tryz.internal_strconv_formatBase10 (blk off cap : Nat) (u : Nat) (d : Array UInt8) (w : World) (hH : Holds (fun (b : UInt8) => Value.int .u8 (b.toNat : Int)) w blk off d) (hu : u < 10 ^ d.size) (hu64 : u < 18446744073709551616) (hsz : d.size < 4611686018427387904) :
    Calls Tryz.prog 222 #[.slice (some ⟨blk, off, none⟩) d.size cap, .int .u64 u] w fun e w' =>
      e = .returned (.tuple #[]) ∧ ∃ (n v' : Nat) (dk : Array UInt8), w' = (putRow (fun (b : UInt8) => Value.int .u8 (b.toNat : Int)) w blk off dk).drewN n ∧ FmtInv d.size u 0 v' dk := Any.internal_strconv_formatBase10 Tryz.lays285 blk off cap u d w hH hu hu64 hsz
def Tryz.lays189_ren : Go.Shelf.Ren := ⟨fun | 189 => 154 | 125 => 176 | 257 => 178 | 128 => 196 | 129 => 197 | 294 => 198 | 295 => 199 | 296 => 200 | 297 => 201 | 298 => 202 | 299 => 203 | 216 => 204 | 300 => 205 | 301 => 206 | 328 => 217 | 329 => 213 | 330 => 214 | 331 => 218 | 332 => 219 | 215 => 181 | 343 => 227 | n => n, fun | 28 => 57 | 3 => 3 | 46 => 158 | 0 => 0 | 51 => 200 | 53 => 203 | 4 => 4 | 183 => 257 | 182 => 256 | 131 => 164 | 5 => 5 | 9 => 9 | 218 => 280 | 222 => 253 | 228 => 297 | 229 => 216 | n => n, fun | n => n⟩
theorem Tryz.lays189 : Go.Proofs.Lays.n189 Tryz.prog Tryz.lays189_ren := {
  mixed := by kernel_rfl
  f125 := Tryz.func176.trans (congrArg some (by kernel_rfl))
  f128 := Tryz.func196.trans (congrArg some (by kernel_rfl))
  f129 := Tryz.func197.trans (congrArg some (by kernel_rfl))
  f189 := Tryz.func154.trans (congrArg some (by kernel_rfl))
  f215 := Tryz.func181.trans (congrArg some (by kernel_rfl))
  f216 := Tryz.func204.trans (congrArg some (by kernel_rfl))
  f257 := Tryz.func178.trans (congrArg some (by kernel_rfl))
  f294 := Tryz.func198.trans (congrArg some (by kernel_rfl))
  f295 := Tryz.func199.trans (congrArg some (by kernel_rfl))
  f296 := Tryz.func200.trans (congrArg some (by kernel_rfl))
  f297 := Tryz.func201.trans (congrArg some (by kernel_rfl))
  f298 := Tryz.func202.trans (congrArg some (by kernel_rfl))
  f299 := Tryz.func203.trans (congrArg some (by kernel_rfl))
  f300 := Tryz.func205.trans (congrArg some (by kernel_rfl))
  f301 := Tryz.func206.trans (congrArg some (by kernel_rfl))
  f328 := Tryz.func217.trans (congrArg some (by kernel_rfl))
  f329 := Tryz.func213.trans (congrArg some (by kernel_rfl))
  f330 := Tryz.func214.trans (congrArg some (by kernel_rfl))
  f331 := Tryz.func218.trans (congrArg some (by kernel_rfl))
  f332 := Tryz.func219.trans (congrArg some (by kernel_rfl))
  f343 := Tryz.func227.trans (congrArg some (by kernel_rfl))
  t0 := Tryz.underlying0
  a0 := Tryz.isAgg0
  z0 := Tryz.sizeOf0
  v0 := Tryz.zeroValue0
  t3 := Tryz.underlying3
  a3 := Tryz.isAgg3
  z3 := Tryz.sizeOf3
  v3 := Tryz.zeroValue3
  t4 := Tryz.underlying4
  a4 := Tryz.isAgg4
  z4 := Tryz.sizeOf4
  v4 := Tryz.zeroValue4
  t5 := Tryz.underlying5
  a5 := Tryz.isAgg5
  z5 := Tryz.sizeOf5
  v5 := Tryz.zeroValue5
  t9 := Tryz.underlying9
  a9 := Tryz.isAgg9
  z9 := Tryz.sizeOf9
  v9 := Tryz.zeroValue9
  t28 := Tryz.underlying57
  a28 := Tryz.isAgg57
  z28 := Tryz.sizeOf57
  v28 := Tryz.zeroValue57
  t46 := Tryz.underlying158
  a46 := Tryz.isAgg158
  z46 := Tryz.sizeOf158
  v46 := Tryz.zeroValue158
  t51 := Tryz.underlying200
  a51 := Tryz.isAgg200
  z51 := Tryz.sizeOf200
  v51 := Tryz.zeroValue200
  t53 := Tryz.underlying203
  a53 := Tryz.isAgg203
  z53 := Tryz.sizeOf203
  v53 := Tryz.zeroValue203
  t131 := Tryz.underlying164
  a131 := Tryz.isAgg164
  z131 := Tryz.sizeOf164
  v131 := Tryz.zeroValue164
  t182 := Tryz.underlying256
  a182 := Tryz.isAgg256
  z182 := Tryz.sizeOf256
  v182 := Tryz.zeroValue256
  t183 := Tryz.underlying257
  a183 := Tryz.isAgg257
  z183 := Tryz.sizeOf257
  v183 := Tryz.zeroValue257
  t218 := Tryz.underlying280
  a218 := Tryz.isAgg280
  z218 := Tryz.sizeOf280
  v218 := Tryz.zeroValue280
  t222 := Tryz.underlying253
  a222 := Tryz.isAgg253
  z222 := Tryz.sizeOf253
  v222 := Tryz.zeroValue253
  t228 := Tryz.underlying297
  a228 := Tryz.isAgg297
  z228 := Tryz.sizeOf297
  v228 := Tryz.zeroValue297
  t229 := Tryz.underlying216
  a229 := Tryz.isAgg216
  z229 := Tryz.sizeOf216
  v229 := Tryz.zeroValue216 }
open Go.Sort Go.RowKit in
theorem Tryz.slices_Sort_int (blk off cap : Nat) (zs : List Int) (w : World) (hH : Holds (Value.int .i64) w blk off zs.toArray) (hblk : blk < w.heap.size) (hsz : zs.length < 4611686018427387904) :
    Calls Tryz.prog 154 #[.slice (some ⟨blk, off, none⟩) zs.length cap] w fun e w' =>
      e = .returned (.tuple #[]) ∧ ∃ n os, w' = grow (putRow (Value.int .i64) (Sort.ahead w n) blk off (zs.mergeSort fun x y => decide (x ≤ y)).toArray) os := Any.slices_Sort_int Tryz.lays189 blk off cap zs w hH hblk hsz
def Tryz.laysM288_ren : Go.Shelf.Ren := ⟨fun | 288 => 207 | 283 => 220 | 284 => 221 | 285 => 222 | 286 => 223 | 129 => 197 | 317 => 228 | 318 => 229 | 319 => 230 | 320 => 231 | 337 => 232 | 338 => 233 | n => n, fun | 37 => 188 | 53 => 203 | 3 => 3 | 4 => 4 | 9 => 9 | 171 => 288 | 0 => 0 | 173 => 290 | 212 => 301 | 51 => 200 | 5 => 5 | 20 => 20 | 213 => 302 | 46 => 158 | 232 => 303 | 233 => 304 | n => n, fun | 17 => 20 | 18 => 21 | 19 => 22 | n => n⟩
theorem Tryz.laysM288 : Go.Proofs.LaysM.n288 Tryz.prog Tryz.laysM288_ren := {
  mixed := by kernel_rfl
  f129 := Tryz.func197.trans (congrArg some (by kernel_rfl))
  f283 := Tryz.func220.trans (congrArg some (by kernel_rfl))
  f284 := Tryz.func221.trans (congrArg some (by kernel_rfl))
  f285 := Tryz.func222.trans (congrArg some (by kernel_rfl))
  f286 := Tryz.func223.trans (congrArg some (by kernel_rfl))
  f288 := Tryz.func207.trans (congrArg some (by kernel_rfl))
  f317 := Tryz.func228.trans (congrArg some (by kernel_rfl))
  f318 := Tryz.func229.trans (congrArg some (by kernel_rfl))
  f319 := Tryz.func230.trans (congrArg some (by kernel_rfl))
  f320 := Tryz.func231.trans (congrArg some (by kernel_rfl))
  f337 := Tryz.func232.trans (congrArg some (by kernel_rfl))
  f338 := Tryz.func233.trans (congrArg some (by kernel_rfl))
  t0 := Tryz.underlying0
  a0 := Tryz.isAgg0
  z0 := Tryz.sizeOf0
  v0 := Tryz.zeroValue0
  t3 := Tryz.underlying3
  a3 := Tryz.isAgg3
  z3 := Tryz.sizeOf3
  v3 := Tryz.zeroValue3
  t4 := Tryz.underlying4
  a4 := Tryz.isAgg4
  z4 := Tryz.sizeOf4
  v4 := Tryz.zeroValue4
  t5 := Tryz.underlying5
  a5 := Tryz.isAgg5
  z5 := Tryz.sizeOf5
  v5 := Tryz.zeroValue5
  t9 := Tryz.underlying9
  a9 := Tryz.isAgg9
  z9 := Tryz.sizeOf9
  v9 := Tryz.zeroValue9
  t20 := Tryz.underlying20
  a20 := Tryz.isAgg20
  z20 := Tryz.sizeOf20
  v20 := Tryz.zeroValue20
  t37 := Tryz.underlying188
  a37 := Tryz.isAgg188
  z37 := Tryz.sizeOf188
  v37 := Tryz.zeroValue188
  t46 := Tryz.underlying158
  a46 := Tryz.isAgg158
  z46 := Tryz.sizeOf158
  v46 := Tryz.zeroValue158
  t51 := Tryz.underlying200
  a51 := Tryz.isAgg200
  z51 := Tryz.sizeOf200
  v51 := Tryz.zeroValue200
  t53 := Tryz.underlying203
  a53 := Tryz.isAgg203
  z53 := Tryz.sizeOf203
  v53 := Tryz.zeroValue203
  t171 := Tryz.underlying288
  a171 := Tryz.isAgg288
  z171 := Tryz.sizeOf288
  v171 := Tryz.zeroValue288
  t173 := Tryz.underlying290
  a173 := Tryz.isAgg290
  z173 := Tryz.sizeOf290
  v173 := Tryz.zeroValue290
  t212 := Tryz.underlying301
  a212 := Tryz.isAgg301
  z212 := Tryz.sizeOf301
  v212 := Tryz.zeroValue301
  t213 := Tryz.underlying302
  a213 := Tryz.isAgg302
  z213 := Tryz.sizeOf302
  t232 := Tryz.underlying303
  a232 := Tryz.isAgg303
  z232 := Tryz.sizeOf303
  v232 := Tryz.zeroValue303
  t233 := Tryz.underlying304
  a233 := Tryz.isAgg304
  z233 := Tryz.sizeOf304
  v233 := Tryz.zeroValue304
  g17 := by kernel_rfl
  g18 := by kernel_rfl
  g19 := by kernel_rfl
  i0 := by kernel_rfl
  i3 := by kernel_rfl
  i4 := by kernel_rfl
  i5 := by kernel_rfl
  i9 := by kernel_rfl
  i20 := by kernel_rfl
  i37 := by kernel_rfl
  i46 := by kernel_rfl
  i51 := by kernel_rfl
  i53 := by kernel_rfl
  i171 := by kernel_rfl
  i173 := by kernel_rfl
  i212 := by kernel_rfl
  i232 := by kernel_rfl
  i233 := by kernel_rfl
  m17 := by kernel_rfl
  m18 := by kernel_rfl
  m19 := by kernel_rfl }
open Go.RowKit Go.Sort Go.Lib in
theorem Tryz.internal_strconv_AppendUint_10_small (B n u : Nat) (hu : u < 100) (sv : Value) (xs : List Value) (w : World) (hown : w.ownsRow B 5 1 sv n xs) (hBw : B ≤ w.heap.size) (hlim : n + 20 ≤ 140737488355328) :
    Calls Tryz.prog 207 #[sv, .int .u64 u, .int .i64 10] w fun e w' => ∃ v', e = .returned v' ∧ w'.ownsRow B 5 1 v' (n + (Lib.decDigits u).length) (xs ++ Lib.byteCells (Lib.decDigits u)) ∧ Below B w w' ∧ Lib.OthersKept 5 none w w' := Any.internal_strconv_AppendUint_10_small Tryz.laysM288 B n u hu sv xs w hown hBw hlim
open Go.RowKit Go.Sort Go.Lib in
theorem Tryz.internal_strconv_AppendUint_10_big (B n u : Nat) (hu : 100 ≤ u) (hu64 : u < 18446744073709551616) (sv : Value) (xs : List Value) (w : World) (hown : w.ownsRow B 5 1 sv n xs) (hBw : B ≤ w.heap.size) (hlim : n + 20 ≤ 140737488355328) (htab : Lib.TabIs Tryz.prog w "internal/strconv.uint64pow10" .u64 Lib.pow10Tab) :
    Calls Tryz.prog 207 #[sv, .int .u64 u, .int .i64 10] w fun e w' => ∃ v', e = .returned v' ∧ w'.ownsRow B 5 1 v' (n + (Lib.decDigits u).length) (xs ++ Lib.byteCells (Lib.decDigits u)) ∧ Below B w w' ∧ Lib.OthersKept 5 none w w' := Any.internal_strconv_AppendUint_10_big Tryz.laysM288 B n u hu hu64 sv xs w hown hBw hlim htab
open Go.RowKit Go.Sort Go.Lib in
theorem Tryz.internal_strconv_AppendUint_10 (B n u : Nat) (hu64 : u < 18446744073709551616) (sv : Value) (xs : List Value) (w : World) (hown : w.ownsRow B 5 1 sv n xs) (hBw : B ≤ w.heap.size) (hlim : n + 20 ≤ 140737488355328) (htab : Lib.TabIs Tryz.prog w "internal/strconv.uint64pow10" .u64 Lib.pow10Tab) :
    Calls Tryz.prog 207 #[sv, .int .u64 u, .int .i64 10] w fun e w' => ∃ v', e = .returned v' ∧ w'.ownsRow B 5 1 v' (n + (Lib.decDigits u).length) (xs ++ Lib.byteCells (Lib.decDigits u)) ∧ Below B w w' ∧ Lib.OthersKept 5 none w w' := Any.internal_strconv_AppendUint_10 Tryz.laysM288 B n u hu64 sv xs w hown hBw hlim htab
def Tryz.laysM249_ren : Go.Shelf.Ren := ⟨fun | 249 => 179 | 288 => 207 | 283 => 220 | 284 => 221 | 285 => 222 | 286 => 223 | 129 => 197 | 317 => 228 | 318 => 229 | 319 => 230 | 320 => 231 | 337 => 232 | 338 => 233 | n => n, fun | 37 => 188 | 2 => 2 | 3 => 3 | 53 => 203 | 4 => 4 | 9 => 9 | 171 => 288 | 0 => 0 | 173 => 290 | 212 => 301 | 51 => 200 | 5 => 5 | 20 => 20 | 213 => 302 | 46 => 158 | 232 => 303 | 233 => 304 | n => n, fun | 17 => 20 | 18 => 21 | 19 => 22 | n => n⟩
theorem Tryz.laysM249 : Go.Proofs.LaysM.n249 Tryz.prog Tryz.laysM249_ren := {
  mixed := by kernel_rfl
  f129 := Tryz.func197.trans (congrArg some (by kernel_rfl))
  f249 := Tryz.func179.trans (congrArg some (by kernel_rfl))
  f283 := Tryz.func220.trans (congrArg some (by kernel_rfl))
  f284 := Tryz.func221.trans (congrArg some (by kernel_rfl))
  f285 := Tryz.func222.trans (congrArg some (by kernel_rfl))
  f286 := Tryz.func223.trans (congrArg some (by kernel_rfl))
  f288 := Tryz.func207.trans (congrArg some (by kernel_rfl))
  f317 := Tryz.func228.trans (congrArg some (by kernel_rfl))
  f318 := Tryz.func229.trans (congrArg some (by kernel_rfl))
  f319 := Tryz.func230.trans (congrArg some (by kernel_rfl))
  f320 := Tryz.func231.trans (congrArg some (by kernel_rfl))
  f337 := Tryz.func232.trans (congrArg some (by kernel_rfl))
  f338 := Tryz.func233.trans (congrArg some (by kernel_rfl))
  t0 := Tryz.underlying0
  a0 := Tryz.isAgg0
  z0 := Tryz.sizeOf0
  v0 := Tryz.zeroValue0
  t2 := Tryz.underlying2
  a2 := Tryz.isAgg2
  z2 := Tryz.sizeOf2
  v2 := Tryz.zeroValue2
  t3 := Tryz.underlying3
  a3 := Tryz.isAgg3
  z3 := Tryz.sizeOf3
  v3 := Tryz.zeroValue3
  t4 := Tryz.underlying4
  a4 := Tryz.isAgg4
  z4 := Tryz.sizeOf4
  v4 := Tryz.zeroValue4
  t5 := Tryz.underlying5
  a5 := Tryz.isAgg5
  z5 := Tryz.sizeOf5
  v5 := Tryz.zeroValue5
  t9 := Tryz.underlying9
  a9 := Tryz.isAgg9
  z9 := Tryz.sizeOf9
  v9 := Tryz.zeroValue9
  t20 := Tryz.underlying20
  a20 := Tryz.isAgg20
  z20 := Tryz.sizeOf20
  v20 := Tryz.zeroValue20
  t37 := Tryz.underlying188
  a37 := Tryz.isAgg188
  z37 := Tryz.sizeOf188
  v37 := Tryz.zeroValue188
  t46 := Tryz.underlying158
  a46 := Tryz.isAgg158
  z46 := Tryz.sizeOf158
  v46 := Tryz.zeroValue158
  t51 := Tryz.underlying200
  a51 := Tryz.isAgg200
  z51 := Tryz.sizeOf200
  v51 := Tryz.zeroValue200
  t53 := Tryz.underlying203
  a53 := Tryz.isAgg203
  z53 := Tryz.sizeOf203
  v53 := Tryz.zeroValue203
  t171 := Tryz.underlying288
  a171 := Tryz.isAgg288
  z171 := Tryz.sizeOf288
  v171 := Tryz.zeroValue288
  t173 := Tryz.underlying290
  a173 := Tryz.isAgg290
  z173 := Tryz.sizeOf290
  v173 := Tryz.zeroValue290
  t212 := Tryz.underlying301
  a212 := Tryz.isAgg301
  z212 := Tryz.sizeOf301
  v212 := Tryz.zeroValue301
  t213 := Tryz.underlying302
  a213 := Tryz.isAgg302
  z213 := Tryz.sizeOf302
  t232 := Tryz.underlying303
  a232 := Tryz.isAgg303
  z232 := Tryz.sizeOf303
  v232 := Tryz.zeroValue303
  t233 := Tryz.underlying304
  a233 := Tryz.isAgg304
  z233 := Tryz.sizeOf304
  v233 := Tryz.zeroValue304
  g17 := by kernel_rfl
  g18 := by kernel_rfl
  g19 := by kernel_rfl
  i0 := by kernel_rfl
  i2 := by kernel_rfl
  i3 := by kernel_rfl
  i4 := by kernel_rfl
  i5 := by kernel_rfl
  i9 := by kernel_rfl
  i20 := by kernel_rfl
  i37 := by kernel_rfl
  i46 := by kernel_rfl
  i51 := by kernel_rfl
  i53 := by kernel_rfl
  i171 := by kernel_rfl
  i173 := by kernel_rfl
  i212 := by kernel_rfl
  i232 := by kernel_rfl
  i233 := by kernel_rfl
  m17 := by kernel_rfl
  m18 := by kernel_rfl
  m19 := by kernel_rfl }
open Go.RowKit Go.Sort Go.Lib in
theorem Tryz.internal_strconv_AppendInt_10 (B n : Nat) (i : Int) (h0 : -9223372036854775808 ≤ i) (h1 : i ≤ 9223372036854775807) (sv : Value) (xs : List Value) (w : World) (hown : w.ownsRow B 5 1 sv n xs) (hBw : B ≤ w.heap.size) (hlim : n + 21 ≤ 140737488355328) (htab : Lib.TabBelow Tryz.prog B w "internal/strconv.uint64pow10" .u64 Lib.pow10Tab) :
    Calls Tryz.prog 179 #[sv, .int .i64 i, .int .i64 10] w fun e w' => ∃ v', e = .returned v' ∧ w'.ownsRow B 5 1 v' (n + (Lib.itoa i).length) (xs ++ Lib.byteCells (Lib.itoa i)) ∧ Below B w w' ∧ Lib.OthersKept 5 none w w' := Any.internal_strconv_AppendInt_10 Tryz.laysM249 B n i h0 h1 sv xs w hown hBw hlim htab
def Tryz.laysM176_ren : Go.Shelf.Ren := ⟨fun | 176 => 155 | 249 => 179 | 288 => 207 | 283 => 220 | 284 => 221 | 285 => 222 | 286 => 223 | 129 => 197 | 317 => 228 | 318 => 229 | 319 => 230 | 320 => 231 | 337 => 232 | 338 => 233 | n => n, fun | 37 => 188 | 2 => 2 | 3 => 3 | 53 => 203 | 4 => 4 | 9 => 9 | 171 => 288 | 0 => 0 | 173 => 290 | 212 => 301 | 51 => 200 | 5 => 5 | 20 => 20 | 213 => 302 | 46 => 158 | 232 => 303 | 233 => 304 | n => n, fun | 17 => 20 | 18 => 21 | 19 => 22 | n => n⟩
theorem Tryz.laysM176 : Go.Proofs.LaysM.n176 Tryz.prog Tryz.laysM176_ren := {
  mixed := by kernel_rfl
  f129 := Tryz.func197.trans (congrArg some (by kernel_rfl))
  f176 := Tryz.func155.trans (congrArg some (by kernel_rfl))
  f249 := Tryz.func179.trans (congrArg some (by kernel_rfl))
  f283 := Tryz.func220.trans (congrArg some (by kernel_rfl))
  f284 := Tryz.func221.trans (congrArg some (by kernel_rfl))
  f285 := Tryz.func222.trans (congrArg some (by kernel_rfl))
  f286 := Tryz.func223.trans (congrArg some (by kernel_rfl))
  f288 := Tryz.func207.trans (congrArg some (by kernel_rfl))
  f317 := Tryz.func228.trans (congrArg some (by kernel_rfl))
  f318 := Tryz.func229.trans (congrArg some (by kernel_rfl))
  f319 := Tryz.func230.trans (congrArg some (by kernel_rfl))
  f320 := Tryz.func231.trans (congrArg some (by kernel_rfl))
  f337 := Tryz.func232.trans (congrArg some (by kernel_rfl))
  f338 := Tryz.func233.trans (congrArg some (by kernel_rfl))
  t0 := Tryz.underlying0
  a0 := Tryz.isAgg0
  z0 := Tryz.sizeOf0
  v0 := Tryz.zeroValue0
  t2 := Tryz.underlying2
  a2 := Tryz.isAgg2
  z2 := Tryz.sizeOf2
  v2 := Tryz.zeroValue2
  t3 := Tryz.underlying3
  a3 := Tryz.isAgg3
  z3 := Tryz.sizeOf3
  v3 := Tryz.zeroValue3
  t4 := Tryz.underlying4
  a4 := Tryz.isAgg4
  z4 := Tryz.sizeOf4
  v4 := Tryz.zeroValue4
  t5 := Tryz.underlying5
  a5 := Tryz.isAgg5
  z5 := Tryz.sizeOf5
  v5 := Tryz.zeroValue5
  t9 := Tryz.underlying9
  a9 := Tryz.isAgg9
  z9 := Tryz.sizeOf9
  v9 := Tryz.zeroValue9
  t20 := Tryz.underlying20
  a20 := Tryz.isAgg20
  z20 := Tryz.sizeOf20
  v20 := Tryz.zeroValue20
  t37 := Tryz.underlying188
  a37 := Tryz.isAgg188
  z37 := Tryz.sizeOf188
  v37 := Tryz.zeroValue188
  t46 := Tryz.underlying158
  a46 := Tryz.isAgg158
  z46 := Tryz.sizeOf158
  v46 := Tryz.zeroValue158
  t51 := Tryz.underlying200
  a51 := Tryz.isAgg200
  z51 := Tryz.sizeOf200
  v51 := Tryz.zeroValue200
  t53 := Tryz.underlying203
  a53 := Tryz.isAgg203
  z53 := Tryz.sizeOf203
  v53 := Tryz.zeroValue203
  t171 := Tryz.underlying288
  a171 := Tryz.isAgg288
  z171 := Tryz.sizeOf288
  v171 := Tryz.zeroValue288
  t173 := Tryz.underlying290
  a173 := Tryz.isAgg290
  z173 := Tryz.sizeOf290
  v173 := Tryz.zeroValue290
  t212 := Tryz.underlying301
  a212 := Tryz.isAgg301
  z212 := Tryz.sizeOf301
  v212 := Tryz.zeroValue301
  t213 := Tryz.underlying302
  a213 := Tryz.isAgg302
  z213 := Tryz.sizeOf302
  t232 := Tryz.underlying303
  a232 := Tryz.isAgg303
  z232 := Tryz.sizeOf303
  v232 := Tryz.zeroValue303
  t233 := Tryz.underlying304
  a233 := Tryz.isAgg304
  z233 := Tryz.sizeOf304
  v233 := Tryz.zeroValue304
  g17 := by kernel_rfl
  g18 := by kernel_rfl
  g19 := by kernel_rfl
  i0 := by kernel_rfl
  i2 := by kernel_rfl
  i3 := by kernel_rfl
  i4 := by kernel_rfl
  i5 := by kernel_rfl
  i9 := by kernel_rfl
  i20 := by kernel_rfl
  i37 := by kernel_rfl
  i46 := by kernel_rfl
  i51 := by kernel_rfl
  i53 := by kernel_rfl
  i171 := by kernel_rfl
  i173 := by kernel_rfl
  i212 := by kernel_rfl
  i232 := by kernel_rfl
  i233 := by kernel_rfl
  m17 := by kernel_rfl
  m18 := by kernel_rfl
  m19 := by kernel_rfl }
open Go.RowKit Go.Sort Go.Lib in
theorem Tryz.strconv_AppendInt_10 (B n : Nat) (i : Int) (h0 : -9223372036854775808 ≤ i) (h1 : i ≤ 9223372036854775807) (sv : Value) (xs : List Value) (w : World) (hown : w.ownsRow B 5 1 sv n xs) (hBw : B ≤ w.heap.size) (hlim : n + 21 ≤ 140737488355328) (htab : Lib.TabBelow Tryz.prog B w "internal/strconv.uint64pow10" .u64 Lib.pow10Tab) :
    Calls Tryz.prog 155 #[sv, .int .i64 i, .int .i64 10] w fun e w' => ∃ v', e = .returned v' ∧ w'.ownsRow B 5 1 v' (n + (Lib.itoa i).length) (xs ++ Lib.byteCells (Lib.itoa i)) ∧ Below B w w' ∧ Lib.OthersKept 5 none w w' := Any.strconv_AppendInt_10 Tryz.laysM176 B n i h0 h1 sv xs w hown hBw hlim htab
def Tryz.lays264_ren : Go.Shelf.Ren := ⟨fun | 264 => 138 | n => n, fun | 53 => 203 | 46 => 158 | n => n, fun | n => n⟩
theorem Tryz.lays264 : Go.Proofs.Lays.n264 Tryz.prog Tryz.lays264_ren := {
  mixed := by kernel_rfl
  f264 := Tryz.func138.trans (congrArg some (by kernel_rfl))
  t46 := Tryz.underlying158
  a46 := Tryz.isAgg158
  z46 := Tryz.sizeOf158
  v46 := Tryz.zeroValue158
  t53 := Tryz.underlying203
  a53 := Tryz.isAgg203
  z53 := Tryz.sizeOf203
  v53 := Tryz.zeroValue203 }
open Go.RowKit Go.Lib in
theorem Tryz.bits_Mul64 (x y : Nat) (hx : x < 18446744073709551616) (hy : y < 18446744073709551616) (w : World) :
    Calls Tryz.prog 138 #[.int .u64 x, .int .u64 y] w fun e w' => e = .returned (.tuple #[.int .u64 ((x * y / 18446744073709551616 : Nat) : Int), .int .u64 ((x * y % 18446744073709551616 : Nat) : Int)]) ∧ w' = w := Any.bits_Mul64 Tryz.lays264 x y hx hy w
def Tryz.lays212_ren : Go.Shelf.Ren := ⟨fun | 212 => 121 | 263 => 137 | 264 => 138 | n => n, fun | 46 => 158 | 51 => 200 | 146 => 201 | 53 => 203 | 148 => 204 | n => n, fun | n => n⟩
theorem Tryz.lays212 : Go.Proofs.Lays.n212 Tryz.prog Tryz.lays212_ren := {
  mixed := by kernel_rfl
  f212 := Tryz.func121.trans (congrArg some (by kernel_rfl))
  f263 := Tryz.func137.trans (congrArg some (by kernel_rfl))
  f264 := Tryz.func138.trans (congrArg some (by kernel_rfl))
  t46 := Tryz.underlying158
  a46 := Tryz.isAgg158
  z46 := Tryz.sizeOf158
  v46 := Tryz.zeroValue158
  t51 := Tryz.underlying200
  a51 := Tryz.isAgg200
  z51 := Tryz.sizeOf200
  v51 := Tryz.zeroValue200
  t53 := Tryz.underlying203
  a53 := Tryz.isAgg203
  z53 := Tryz.sizeOf203
  v53 := Tryz.zeroValue203
  t146 := Tryz.underlying201
  a146 := Tryz.isAgg201
  z146 := Tryz.sizeOf201
  v146 := Tryz.zeroValue201
  t148 := Tryz.underlying204
  a148 := Tryz.isAgg204
  z148 := Tryz.sizeOf204
  v148 := Tryz.zeroValue204 }
open Go.RowKit Go.Lib in
theorem Tryz.bits_Mul (x y : Nat) (hx : x < 18446744073709551616) (hy : y < 18446744073709551616) (w : World) :
    Calls Tryz.prog 121 #[.int .u64 x, .int .u64 y] w fun e w' => e = .returned (.tuple #[.int .u64 ((x * y / 18446744073709551616 : Nat) : Int), .int .u64 ((x * y % 18446744073709551616 : Nat) : Int)]) ∧ w' = w := Any.bits_Mul Tryz.lays212 x y hx hy w
def Tryz.laysNm220_ren : Go.Shelf.Ren := ⟨fun | 20 => 156 | n => n, fun | 22 => 57 | 3 => 3 | 4 => 4 | 0 => 0 | n => n, fun | n => n⟩
theorem Tryz.laysNm220 : Go.Proofs.Lays2.n20 Tryz.prog Tryz.laysNm220_ren := {
  mixed := by kernel_rfl
  f20 := Tryz.func156.trans (congrArg some (by kernel_rfl))
  t0 := Tryz.underlying0
  a0 := Tryz.isAgg0
  z0 := Tryz.sizeOf0
  v0 := Tryz.zeroValue0
  t3 := Tryz.underlying3
  a3 := Tryz.isAgg3
  z3 := Tryz.sizeOf3
  v3 := Tryz.zeroValue3
  t4 := Tryz.underlying4
  a4 := Tryz.isAgg4
  z4 := Tryz.sizeOf4
  v4 := Tryz.zeroValue4
  t22 := Tryz.underlying57
  a22 := Tryz.isAgg57
  z22 := Tryz.sizeOf57
  v22 := Tryz.zeroValue57
  i3 := by kernel_rfl }
open Go.RowKit Go.Lib Go.Sort in
theorem Tryz.slices_Compact_int_arr (blk off cap : Nat) (d : Array Int) (w : World) (hH : Holds encI w blk off d) (hsz : d.size ≤ 9223372036854775807) (hcap : d.size ≤ cap) :
    Calls Tryz.prog 156 #[.slice (some ⟨blk, off, none⟩) d.size cap] w fun e w' => e = .returned (.slice (some ⟨blk, off, none⟩) (compactUpTo d d.size).length cap) ∧ ∃ q, w' = putRow encI (Sort.ahead w q) blk off (compactUpTo d d.size ++ List.replicate (d.size - (compactUpTo d d.size).length) 0).toArray := Any.slices_Compact_int_arr Tryz.laysNm220 blk off cap d w hH hsz hcap
open Go.RowKit Go.Lib Go.Sort in
theorem Tryz.slices_Compact_int (blk off cap : Nat) (zs : List Int) (w : World) (hH : Holds (Value.int .i64) w blk off zs.toArray) (hsz : zs.length ≤ 9223372036854775807) (hcap : zs.length ≤ cap) :
    Calls Tryz.prog 156 #[.slice (some ⟨blk, off, none⟩) zs.length cap] w fun e w' => e = .returned (.slice (some ⟨blk, off, none⟩) (Lib.compact zs).length cap) ∧ ∃ q, w' = putRow (Value.int .i64) (Sort.ahead w q) blk off (Lib.compact zs ++ List.replicate (zs.length - (Lib.compact zs).length) 0).toArray := Any.slices_Compact_int Tryz.laysNm220 blk off cap zs w hH hsz hcap
open Go.RowKit Go.Lib Go.Sort in
theorem Tryz.slices_Compact_int_empty (a : Option Addr) (cap : Nat) (w : World) :
    Calls Tryz.prog 156 #[.slice a 0 cap] w fun e w' => e = .returned (.slice a 0 cap) ∧ w' = w := Any.slices_Compact_int_empty Tryz.laysNm220 a cap w
end Go.Proofs
/- slices.Sort of a list of numbers that is the call's own. -/
namespace Go.Proofs.YtpmanmoljlhogaaGreatDoor
open Go.RowKit Go.Maps
/-- slices.Sort of a list of the call's own. -/
theorem sortI_any (w : World) (B g cap : Nat) (zs : List Int) (h : OwnI w B (.slice (some ⟨g, 0, none⟩) zs.length cap) zs) (hn : zs.length ≤ 1000000) :
    Calls Tryz.prog 154 #[.slice (some ⟨g, 0, none⟩) zs.length cap] w fun e w' => e = .returned (.tuple #[]) ∧ OwnI w' B (.slice (some ⟨g, 0, none⟩) zs.length cap) (zs.mergeSort fun x y => decide (x ≤ y)) ∧ w.grownBy w' (some g) := by
  rcases h.2 with ⟨e, _⟩ | ⟨g', cap', cur, e, hg, hb, hc, hm, hs, ht⟩
  · cases e
  injection e with e1 e2 e3
  have e4 := Option.some.inj e1
  injection e4 with e5
  subst e5; subst e3
  rw [Nat.mul_one] at ht
  refine (Tryz.slices_Sort_int g 0 cap zs w (holds_of_blockI hb ht) (t_lt hb) (by omega)).mono ?_
  rintro r w' ⟨rfl, n, os, rfl⟩
  have hl : (zs.mergeSort fun x y => decide (x ≤ y)).length = zs.length := List.length_mergeSort _
  refine ⟨rfl, ?_, grownBy_sortedI _⟩
  have := ownsRow_sortedI (n := n) (os := os) hl hg hb hc hm hs
  unfold OwnI
  rw [hl]
  exact this
theorem sort_perm (zs : List Int) : (zs.mergeSort fun x y => decide (x ≤ y)).Perm zs := List.mergeSort_perm _ _
theorem sort_rise (zs : List Int) : (zs.mergeSort fun x y => decide (x ≤ y)).Pairwise (· ≤ ·) := by
  have h := List.pairwise_mergeSort (le := fun x y : Int => decide (x ≤ y)) (fun a b c h1 h2 => by simp at *; omega) (fun a b => by simp; omega) zs
  exact h.imp fun h => by simpa using h
end Go.Proofs.YtpmanmoljlhogaaGreatDoor
/- Contract of the program's signature: the text of a state's class, and of the labels and classes that its steps lead to. -/
namespace Go.Proofs.YtpmanmoljlhogaaGreatDoor
open Go.RowKit Go.Maps
attribute [local go_sem ↓] Go.wp_at_zero Go.wp_at_succ
/-- The table of strconv's powers of ten lies below. -/
def Pow (w : World) : Prop := Lib.TabBelow Tryz.prog w.heap.size w "internal/strconv.uint64pow10" .u64 Lib.pow10Tab
theorem Pow.below {w w' : World} (h : Pow w) (hb : Below w.heap.size w w') : Pow w' := Lib.tabBelow_of_tabIs (h w' hb)
theorem Pow.from {w w' : World} (h : Pow w) (hb : Below w.heap.size w w') : Lib.TabBelow Tryz.prog w.heap.size w' "internal/strconv.uint64pow10" .u64 Lib.pow10Tab := Lib.TabBelow.on h hb
theorem Tryz.infoU8 : (Tryz.prog.info? 5).map (fun i => (i.zero, i.size, i.bytes)) = some (some (.int .u8 0), 1, 1) := by kernel_rfl
/-- slices.Compact of numbers that are the call's own. -/
theorem compactI_any (w : World) (B g cap : Nat) (zs : List Int) (h : OwnI w B (.slice (some ⟨g, 0, none⟩) zs.length cap) zs) (hs : zs.Pairwise (· ≤ ·)) :
    Calls Tryz.prog 156 #[.slice (some ⟨g, 0, none⟩) zs.length cap] w fun e w' => e = .returned (.slice (some ⟨g, 0, none⟩) (Ro.sd zs).length cap) ∧ (∃ cur, w'.heap[g]? = some (.cells cur 3 (0, 0)) ∧ ∀ (i : Nat) (z : Int), (Ro.sd zs)[i]? = some z → cur[i]? = some (.int .i64 z)) ∧ w.grownBy w' (some g) := by
  rcases h.2 with ⟨e, _⟩ | ⟨g', cap', cur, e, hg, hb, hc, hm, hsz, ht⟩
  · cases e
  injection e with e1 e2 e3
  have e4 := Option.some.inj e1
  injection e4 with e5
  subst e5; subst e3
  rw [Nat.mul_one] at ht hsz
  refine (Tryz.slices_Compact_int g 0 cap zs w (holds_of_blockI hb ht) (by unfold maxLen at hm; omega) (by omega)).mono ?_
  rintro r w' ⟨rfl, q, hw'⟩
  rw [Ro.compact_sd hs] at hw' ⊢
  obtain ⟨d, hd⟩ : ∃ d, d = Ro.sd zs ++ List.replicate (zs.length - (Ro.sd zs).length) 0 := ⟨_, rfl⟩
  rw [← hd] at hw'
  have hdl : d.length ≤ zs.length := by
    have hp : (Ro.sd zs).length ≤ zs.length := by rw [← Ro.compact_sd hs]; unfold Lib.compact Lib.compactUpTo; rw [List.length_map]; exact Nat.le_trans (List.length_filter_le _ _) (by simp)
    rw [hd]; simp; omega
  have hgr : Sort.grow w' #[] = w' := by simp [Sort.grow]
  have h1 := heap_sortedI (n := q) (os := #[]) d.toArray hb
  rw [← hw', hgr] at h1
  have h2 := grownBy_sortedI (w := w) (g := g) (n := q) (os := #[]) d.toArray
  rw [← hw', hgr] at h2
  refine ⟨rfl, ⟨_, h1, fun i z hz => ?_⟩, h2⟩
  have hil := (List.getElem?_eq_some_iff.1 hz).1
  have h3 := take_putCellsI cur d (by omega)
  have hdi : d[i]? = some z := by rw [hd, List.getElem?_append_left hil]; exact hz
  have hid := (List.getElem?_eq_some_iff.1 hdi).1
  have h4 : ((Sort.putCells (Value.int .i64) 0 d.toArray cur).toList.take d.length)[i]? = (d.map (Value.int .i64))[i]? := by rw [h3]
  rw [List.getElem?_take_of_lt hid, List.getElem?_map, hdi, Array.getElem?_toList] at h4
  exact h4
/-- The text being written, and the numbers that it is written of. -/
structure SgAt (w wr : World) (g : Nat) (tv : Value) (txt : List UInt8) (es : List Int) : Prop where
  bl : Below w.heap.size w wr
  gu : w.heap.size ≤ g
  row : ∃ cur, wr.heap[g]? = some (.cells cur 3 (0, 0)) ∧ ∀ (i : Nat) (z : Int), es[i]? = some z → cur[i]? = some (.int .i64 z)
  text : wr.ownsRow w.heap.size 5 1 tv txt.length (Lib.byteCells txt)
theorem SgAt.cell {w wr : World} {g : Nat} {tv : Value} {txt : List UInt8} {es : List Int} (h : SgAt w wr g tv txt es) {i : Nat} {z : Int} (hz : es[i]? = some z) : wr.cell? ⟨g, i, none⟩ = some (.int .i64 z) := by
  obtain ⟨cur, h1, h2⟩ := h.row
  exact cell0_of h1 (h2 i z hz)
theorem SgAt.num {w wr w' : World} {g : Nat} {tv tv' : Value} {txt : List UInt8} {es : List Int} (h : SgAt w wr g tv txt es) (e : Int) (hO : w'.ownsRow w.heap.size 5 1 tv' (txt.length + (Lib.itoa e).length) (Lib.byteCells txt ++ Lib.byteCells (Lib.itoa e))) (hb : Below w.heap.size wr w') (hk : Lib.OthersKept 5 none wr w') : SgAt w w' g tv' (txt ++ Lib.itoa e) es := by
  obtain ⟨cur, h1, h2⟩ := h.row
  refine ⟨h.bl.trans hb, h.gu, ⟨cur, hk g _ h1 (by simp) (fun c fz e9 => by injection e9 with _ e9; exact absurd e9 (by decide)), h2⟩, ?_⟩
  rw [List.length_append, show Lib.byteCells (txt ++ Lib.itoa e) = Lib.byteCells txt ++ Lib.byteCells (Lib.itoa e) by simp [Lib.byteCells]]
  exact hO
theorem SgAt.sp {w wr w' : World} {g : Nat} {tv tv' : Value} {txt : List UInt8} {es : List Int} {o : Obj} (h : SgAt w wr g tv txt es) (hO : w'.ownsRow w.heap.size 5 1 tv' (txt.length + 1) (Lib.byteCells txt ++ [.int .u8 32])) (hg : (wr.alloc o).grownBy w' tv.ownBlock) : SgAt w w' g tv' (txt ++ [32]) es := by
  obtain ⟨cur, h1, h2⟩ := h.row
  have hk := grown_alloc hg
  refine ⟨h.bl.trans (hk.below h.bl.size fun b hb => (h.text.lt b hb).1), h.gu, ⟨cur, (hk.block g (t_lt h1) fun hb => own_bk h.text h1 (by decide) hb).trans h1, h2⟩, ?_⟩
  rw [List.length_append, show Lib.byteCells (txt ++ [32]) = Lib.byteCells txt ++ [.int .u8 32] by simp [Lib.byteCells]]
  exact hO
theorem byte_row {w : World} {B : Nat} {tv : Value} {txt : List UInt8} (h : w.ownsRow B 5 1 tv txt.length (Lib.byteCells txt)) (h0 : 0 < txt.length) : ∃ a cap, tv = .slice (some a) txt.length cap ∧ ∀ j (hj : j < txt.length), w.cell? (a.add j) = some (.int .u8 (txt[j].toNat : Int)) := by
  obtain ⟨ao, cap, hv⟩ := row_shape h
  rcases h.2 with ⟨e, h1⟩ | ⟨g, cap', cur, e, _⟩
  · omega
  · rw [e] at h
    refine ⟨⟨g, 0, none⟩, cap', e, fun j hj => ?_⟩
    have h2 := h.cellAt j (by omega)
    rw [addz, h2]
    simp [Lib.byteCells, hj]
end Go.Proofs.YtpmanmoljlhogaaGreatDoor
/- Contract of the program's signature: the walk. -/
namespace Go.Proofs.YtpmanmoljlhogaaGreatDoor
open Go.RowKit Go.Maps
attribute [local go_sem ↓] Go.wp_at_zero Go.wp_at_succ
/-- A signature's text. -/
def sigB (c : Int) (es : List Int) : ByteArray := ⟨(Ro.sigL c es).toArray⟩
theorem ends_take {n : Int} {c : List Nat} {zs : List Ro.St} {i : Nat} {z : Ro.St} (h : zs[i]? = some z) : Ro.ends n c (zs.take (i + 1)) = Ro.ends n c (zs.take i) ++ [z.1 * n + Ro.cl c z.2] := by
  rw [take_succ_of h]
  simp [Ro.ends]
theorem ends_set {N i : Nat} {xs : List Int} {x : Int} (hl : xs.length = i) (hi : i < N) : (iC xs ++ List.replicate (N - i) (Value.int .i64 0)).set i (.int .i64 x) = iC (xs ++ [x]) ++ List.replicate (N - (i + 1)) (.int .i64 0) := by
  have e : N - i = (N - (i + 1)) + 1 := by omega
  have hl2 : (iC xs).length = i := by simp [iC, hl]
  rw [e, List.replicate_succ, List.set_append_right _ _ (by omega), hl2, Nat.sub_self, List.set_cons_zero]
  simp [iC]
theorem ends_sort_mem {zs : List Int} {n : Int} (h : ∀ z ∈ zs, 0 ≤ z ∧ z < n) : ∀ z ∈ Ro.sd (zs.mergeSort fun x y => decide (x ≤ y)), 0 ≤ z ∧ z < n := fun z hz => h z ((sort_perm zs).mem_iff.1 (Ro.mem_sd.1 hz))
theorem sd_sort (zs : List Int) : Ro.sd (zs.mergeSort fun x y => decide (x ≤ y)) = Ro.sd zs := Ro.sd_eq.2 fun _ => (sort_perm zs).mem_iff
theorem cl_lt {c : List Nat} {n : Nat} (h : ∀ u ∈ c, u < n) (t : Int) (h0 : 0 < n) : Ro.cl c t < n := by
  unfold Ro.cl
  cases hx : c[t.toNat]? with
  | none => simpa using h0
  | some u => exact h u (List.mem_of_getElem? hx)
set_option maxRecDepth 100000 in
set_option maxHeartbeats 8000000 in
theorem signature_any (k n : Nat) (c : List Nat) (zs : List Ro.St) (vs vc : Value) (w : World) (hk : k ≤ 1000) (hn : n ≤ 1000) (hc : c.length = n) (hcl : ∀ u ∈ c, u < n) (hz : ∀ z ∈ zs, (0 ≤ z.1 ∧ z.1 ≤ 300) ∧ 0 ≤ z.2 ∧ z.2 < (n : Int)) (hzl : zs.length ≤ 10000) (hs : BSteps.Has w vs zs) (hv : HasI w vc (natI c)) (hP : Pow w) :
    Calls Tryz.prog 136 #[.int .i64 k, vs, vc] w fun r w' => r = .returned (.string (sigB k (Ro.sd (Ro.ends n c zs)))) ∧ Below w.heap.size w w' := by
  obtain ⟨i0, hi0, hz0, hz1, hz2⟩ := info_parts Tryz.infoU8
  have hs0 := hs
  obtain ⟨av, cs, rfl, _⟩ := hs0
  obtain ⟨ac, cc, rfl, hcs⟩ := hv
  obtain ⟨N, hN⟩ : ∃ N, N = zs.length := ⟨_, rfl⟩
  have hcn : (natI c).length = n := by simp [natI, hc]
  rw [hcn]
  rw [← hN] at hs hzl ⊢
  have HH : Hid _ := And.intro hs (And.intro hcs (And.intro hc (And.intro hcl (And.intro hz (And.intro hP hN)))))
  have hmk := makeI N (by omega) w
  clear hs hcs hc hcl hz hP hN hcn
  go_enter Tryz.func136, Tryz.ntmps136
  go_wp2_with fail
  clear hmk
  go_loopg [18] N (fun q iv wr => ∃ i : Nat, q = N - i ∧ i ≤ N ∧ iv = .int .i64 i ∧ Arr 3 w wr w.heap.size (iC (Ro.ends n c (zs.take i)) ++ List.replicate (N - i) (.int .i64 0)))
  case atStart => exact ⟨0, rfl, Nat.zero_le _, rfl, by have h1 := arr_new 3 (.int .i64 0) rfl N w; simpa [Ro.ends, iC] using h1⟩
  case round =>
    obtain ⟨i, rfl, hi, rfl, hA⟩ := hrel
    by_cases hlt : i < N
    · obtain ⟨⟨l, t0⟩, hzi⟩ : ∃ z, zs[i]? = some z := ⟨zs[i]'(by have := HH.out.2.2.2.2.2.2; omega), List.getElem?_eq_getElem _⟩
      have hzb := HH.out.2.2.2.2.1 _ (List.mem_of_getElem? hzi)
      simp only at hzb
      obtain ⟨t, rfl⟩ : ∃ t : Nat, t0 = (t : Int) := ⟨t0.toNat, by omega⟩
      obtain ⟨x, hx⟩ : ∃ x, c[t]? = some x := ⟨c[t]'(by have := HH.out.2.2.1; omega), List.getElem?_eq_getElem _⟩
      have hxn := HH.out.2.2.2.1 x (List.mem_of_getElem? hx)
      have hst := ends_take (n := n) (c := c) hzi
      have hcx : Ro.cl c (t : Int) = x := by unfold Ro.cl; rw [Int.toNat_natCast, hx]; rfl
      simp only [hcx] at hst
      obtain ⟨a, rfl, d0, d1⟩ := step_at (HH.out.1.below hA.bl) hzi
      simp only at d0 d1
      obtain ⟨a2, rfl, d2⟩ := HH.out.2.1 t (x : Int) (by simp [natI, hx])
      obtain ⟨wb, hwb⟩ : ∃ wb, wb = wr.alloc (.cells #[.int .i64 l, .int .i64 t] 116) := ⟨_, rfl⟩
      have hbb : Below wr.heap.size wr wb := by rw [hwb]; exact (Below.refl _ _).alloc (Nat.le_refl _) _
      have hgb : wb.heap[wr.heap.size]? = some (.cells #[.int .i64 l, .int .i64 t] 116 (0, 0)) := by rw [hwb]; exact heap_alloc_new wr _
      have f0 : wb.cell? ⟨wr.heap.size, 0, none⟩ = some (.int .i64 l) := cell0_of hgb rfl
      have f1 : wb.cell? ⟨wr.heap.size, 1, none⟩ = some (.int .i64 t) := cell0_of hgb rfl
      have hbw : Below w.heap.size w wb := hA.bl.trans (hbb.mono hA.bl.size)
      have f2 : wb.cell? (a2.add t) = some (.int .i64 x) := (hbw.cell (World.block_lt_of_cell? w _ d2)).trans d2
      have hAb := hA.below hbb
      have hel : (Ro.ends n c (zs.take i)).length = i := by simp [Ro.ends]; have := HH.out.2.2.2.2.2.2; omega
      have hix : (iC (Ro.ends n c (zs.take i)) ++ List.replicate (N - i) (Value.int .i64 0))[i]? = some (.int .i64 0) := by
        rw [List.getElem?_append_right (by simp [iC, hel]), List.getElem?_replicate, if_pos (by simp [iC, hel]; omega)]
      have cx := hAb.cell hix
      have cf := hAb.free i
      have hset := ends_set (x := l * n + x) hel hlt
      have hAs := hAb.set i (.int .i64 (l * n + x))
      rw [hset, ← hst] at hAs
      have p0 : (0 : Int) ≤ (i : Int) := by omega
      have p1 : (i : Int) < (N : Int) := by omega
      have p2 : (0 : Int) ≤ (t : Int) := by omega
      have p3 : (t : Int) < (n : Int) := by omega
      have hm0 : 0 ≤ l * (n : Int) := Int.mul_nonneg hzb.1.1 (by omega)
      have hm1 : l * (n : Int) ≤ 300 * 1000 := Int.mul_le_mul hzb.1.2 (by omega) (by omega) (by omega)
      have hm2 : IntKind.i64.wrap (l * (n : Int)) = l * (n : Int) := by rw [IntKind.wrap_i64]; omega
      have hm3 : IntKind.i64.wrap (l * (n : Int) + (x : Int)) = l * (n : Int) + (x : Int) := by rw [IntKind.wrap_i64]; omega
      have n1 : ¬ w.heap.size = wr.heap.size := by have := hA.lt; omega
      have n2 : ¬ wr.heap.size = w.heap.size := fun e => n1 e.symm
      have HZ : Hid _ := And.intro hwb hAs
      clear hwb hbb hgb hbw hAb hA hix hset hAs hst hzi hx hcx d2 hel hzb hxn
      go_upto_region 5 with fail
      rw [← HZ.out.1]
      go_region
      all_goals go_wp2_with fail
      all_goals
        go_roundg (N - (i + 1))
        case measure => omega
        case rel => exact ⟨i + 1, rfl, by omega, by go_num, HZ.out.2.below (Below.refl _ _).drew⟩
    · obtain rfl : i = N := by omega
      have k1 : ¬ (i : Int) < (i : Int) := by omega
      obtain ⟨E, hE⟩ : ∃ E, E = Ro.ends n c zs := ⟨_, rfl⟩
      have hEl : E.length = i := by rw [hE]; simp [Ro.ends]; exact HH.out.2.2.2.2.2.2.symm
      have hEb : ∀ z ∈ E, 0 ≤ z ∧ z < 1000000 := fun z hz => by
        rw [hE] at hz
        obtain ⟨y, hy, rfl⟩ := List.mem_map.1 hz
        have h1 := HH.out.2.2.2.2.1 y hy
        have h2 := cl_lt HH.out.2.2.2.1 y.2 (by omega)
        have hm0 : 0 ≤ y.1 * (n : Int) := Int.mul_nonneg h1.1.1 (by omega)
        have hm1 : y.1 * (n : Int) ≤ 300 * 1000 := Int.mul_le_mul h1.1.2 (by omega) (by omega) (by omega)
        omega
      rw [List.take_of_length_le (by have := HH.out.2.2.2.2.2.2; omega), ← hE, Nat.sub_self, List.replicate_zero, List.append_nil] at hA
      have hO : OwnI wr w.heap.size (.slice (some ⟨w.heap.size, 0, none⟩) E.length E.length) E := by
        have h1 := hA.own (by simp [iC, hEl]; unfold maxLen; omega)
        rw [show (iC E).length = E.length by simp [iC]] at h1
        exact h1
      have hS := sortI_any wr w.heap.size w.heap.size E.length E hO (by omega)
      have hfin : Ro.sd (Ro.ends n c zs) = Ro.sd (E.mergeSort fun x y => decide (x ≤ y)) := by rw [← hE, sd_sort]
      obtain ⟨E2, hE2⟩ : ∃ E2, E2 = E.mergeSort fun x y => decide (x ≤ y) := ⟨_, rfl⟩
      have hr2 : E2.Pairwise (· ≤ ·) := by rw [hE2]; exact sort_rise E
      have hl2 : E2.length = i := by rw [hE2, List.length_mergeSort]; exact hEl
      have hb2 : ∀ z ∈ Ro.sd E2, 0 ≤ z ∧ z < 1000000 := by rw [hE2]; exact ends_sort_mem hEb
      have hsl : (Ro.sd E2).length ≤ i := by have := Ro.sd_len E2; omega
      rw [← hE2] at hS hfin
      rw [hEl] at hS
      have H1 : Hid _ := And.intro hS (And.intro hA.bl (And.intro hr2 (And.intro hl2 (And.intro hb2 hfin))))
      clear hA hO hS hE hEl hEb hE2 hr2 hl2 hb2 hi hlt hfin
      go_wp2_with fail
      refine Calls.mono H1.out.1 ?_
      rintro r w2 ⟨rfl, hO2, hg2⟩
      have hbl2 : Below w.heap.size w w2 := H1.out.2.1.grown hg2 H1.out.2.1.size fun b e => by injection e with e; omega
      have H2 : Hid _ := And.intro hO2 hbl2
      clear hO2 hg2 hbl2
      go_wp2_with fail
      refine Calls.mono (Tryz.strconv_AppendInt_10 w.heap.size 0 (k : Int) (by omega) (by omega) (.slice none 0 0) [] w2 (World.ownsRow_nil _ _ _ _) H2.out.2.size (by omega) (HH.out.2.2.2.2.2.1.from H2.out.2)) ?_
      rintro r w3 ⟨tv, rfl, hO3, hb3, hk3⟩
      have hOI : OwnI w3 w.heap.size (.slice (some ⟨w.heap.size, 0, none⟩) E2.length i) E2 := by
        have h1 := H2.out.1
        rw [H1.out.2.2.2.1]
        refine trow_at h1 fun b hb => ?_
        obtain ⟨c1, hc1⟩ := row_cells h1 hb
        rw [hc1]
        exact hk3 b _ hc1 (by simp) (fun c fz e9 => by injection e9 with _ e9; exact absurd e9 (by decide))
      have hC := compactI_any w3 w.heap.size w.heap.size i E2 hOI H1.out.2.2.1
      rw [H1.out.2.2.2.1] at hC
      have htx : w3.ownsRow w.heap.size 5 1 tv (Lib.itoa (k : Int)).length (Lib.byteCells (Lib.itoa (k : Int))) := by simpa using hO3
      have H3 : Hid _ := And.intro hC (And.intro (H2.out.2.trans hb3) (And.intro htx (row_cells hOI rfl)))
      obtain ⟨at0, ct0, htv⟩ := row_shape htx
      subst htv
      clear hOI hC htx hO3 hb3 hk3
      go_wp2_with fail
      refine Calls.mono H3.out.1 ?_
      rintro r w4 ⟨rfl, hcur4, hg4⟩
      obtain ⟨es, hes⟩ : ∃ es, es = Ro.sd E2 := ⟨_, rfl⟩
      rw [← hes] at hcur4 hsl
      have hM0 : (Ro.sd E2).length = es.length := by rw [hes]
      rw [hM0]
      have hSg : SgAt w w4 w.heap.size (.slice at0 (Lib.itoa (k : Int)).length ct0) (Ro.sigL k (es.take 0)) es := by
        refine ⟨H3.out.2.1.grown hg4 H3.out.2.1.size (fun b e => by injection e with e; omega), Nat.le_refl _, hcur4, ?_⟩
        have e0 : Ro.sigL (k : Int) (es.take 0) = Lib.itoa (k : Int) := by simp [Ro.sigL, Ro.words]
        rw [e0]
        refine own_up H3.out.2.2.1 (Kept.of_grown hg4) fun b hb hF => ?_
        injection hF with hF
        obtain ⟨c1, hc1⟩ := H3.out.2.2.2
        exact own_bk H3.out.2.2.1 hc1 (by decide) (by rw [hF]; exact hb)
      have hb4 : ∀ z ∈ es, 0 ≤ z ∧ z < 1000000 := by rw [hes]; exact H1.out.2.2.2.2.1
      have H4 : Hid _ := And.intro hSg (And.intro hb4 (hes.trans H1.out.2.2.2.2.2.symm))
      obtain ⟨M, hM⟩ : ∃ M, M = es.length := ⟨_, rfl⟩
      rw [← hM] at hsl ⊢
      have HM : Hid (M = es.length) := hM
      clear hSg hb4 hes hM hcur4 hg4 hM0
      go_wp2_with fail
      go_loopg [10, 45] M (fun q tv jv wr => ∃ j : Nat, q = M - j ∧ j ≤ M ∧ jv = .int .i64 j ∧ SgAt w wr w.heap.size tv (Ro.sigL k (es.take j)) es)
      case atStart => exact ⟨0, rfl, Nat.zero_le _, rfl, H4.out.1⟩
      case round =>
        obtain ⟨j, rfl, hj, rfl, hG⟩ := hrel
        obtain ⟨w5, rfl⟩ : ∃ w5, w5 = wr := ⟨_, rfl⟩
        have hlen := Ro.sigL_len k (es.take j) (by omega) (by omega) (fun z hz => H4.out.2.1 z (List.mem_of_mem_take hz))
        have hpos := Ro.sigL_pos k (es.take j)
        obtain ⟨a5, c5, hv5, hc5⟩ := byte_row hG.text hpos
        subst hv5
        obtain ⟨tx, htx⟩ : ∃ tx, tx = Ro.sigL k (es.take j) := ⟨_, rfl⟩
        rw [← htx] at hG hlen hpos hc5 ⊢
        obtain ⟨T, hT⟩ : ∃ T, T = tx.length := ⟨_, rfl⟩
        have hTl : T ≤ 100000 := by rw [hT]; rw [List.length_take] at hlen; omega
        by_cases hjM : j < M
        · obtain ⟨z, hz⟩ : ∃ z, es[j]? = some z := ⟨es[j]'(by have := HM.out; omega), List.getElem?_eq_getElem _⟩
          have hzb := H4.out.2.1 z (List.mem_of_getElem? hz)
          have cz := hG.cell hz
          have p0 : (0 : Int) ≤ (j : Int) := by omega
          have p1 : (j : Int) < (M : Int) := by omega
          have hOz : w5.ownsRow w.heap.size 5 1 (.slice (some a5) T c5) T (Lib.byteCells tx) := by rw [hT]; exact hG.text
          have hml : T + 1 ≤ maxLen := by unfold maxLen; omega
          have hby : (T + 1) * 1 ≤ 140737488355328 := by omega
          have hle : w.heap.size ≤ (w5.alloc (.cells #[.int .u8 32] 5)).heap.size := by have := hG.bl.size; simp; omega
          rw [← hT]
          have HG : Hid _ := And.intro hG (And.intro hOz (And.intro htx (And.intro hz hT)))
          clear hG hOz htx hz hT hc5 hlen hpos
          go_upto_region 13 with (at_builtin; refine wpList_append_own_at _ rfl _ _ 188 rfl w.heap.size 5 i0 (.int .u8 0) 1 1 Tryz.underlying188 hi0 hz0 hz1 hz2 rfl (by decide) (.slice (some a5) T c5) T (Lib.byteCells tx) rfl (HG.out.2.1.alloc _) ⟨w5.heap.size, 0, none⟩ 1 1 [.int .u8 32] rfl rfl (World.news_of_block (cs := #[.int .u8 32]) (t := 5) (fr := (0, 0)) (heap_alloc_new w5 _)) (by simp [Value.oneCell']) hml hby hle ?_; intro v6 w6 hO6 hg6 hnil6 hat6; have H6 : Hid _ := And.intro hO6 hg6; clear hO6 hg6 hnil6 hat6)
          have hG6 := HG.out.1.sp (by rw [← HG.out.2.2.2.2]; exact H6.out.1) (by rw [← HG.out.2.2.2.2]; exact H6.out.2)
          have hN := Tryz.strconv_AppendInt_10 w.heap.size (T + 1) z (by omega) (by omega) v6 _ w6 H6.out.1 hG6.bl.size (by omega) (HH.out.2.2.2.2.2.1.from hG6.bl)
          have H7 : Hid _ := And.intro hN hG6
          clear hN hG6
          go_wp2_with fail
          refine Calls.mono H7.out.1 ?_
          rintro r w7 ⟨v7, rfl, hO7, hb7, hk7⟩
          have H8 : Hid _ := H7.out.2.num z (by rw [List.length_append, ← HG.out.2.2.2.2, show Lib.byteCells (tx ++ [32]) = Lib.byteCells tx ++ [.int .u8 32] by simp [Lib.byteCells]]; exact hO7) hb7 hk7
          clear hO7 hb7 hk7
          go_wp2_with fail
          go_roundg (M - (j + 1))
          case measure => omega
          case rel =>
            refine ⟨j + 1, rfl, by omega, by go_num, ?_⟩
            have h9 := H8.out
            rw [HG.out.2.2.1, List.append_assoc, show ([32] : List UInt8) ++ Lib.itoa z = 32 :: Lib.itoa z from rfl, Ro.sigL_snoc, ← take_succ_of HG.out.2.2.2.1] at h9
            exact h9
        · obtain rfl : j = M := by omega
          have p1 : ¬ (j : Int) < (j : Int) := by omega
          have hcv := run_convert_bytes_back (P := Tryz.prog) w5 188 9 5 a5 c5 tx Tryz.underlying188 Tryz.underlying5 Tryz.underlying9 hc5
          rw [List.take_of_length_le (by have := HM.out; omega)] at htx
          have HG : Hid _ := And.intro hG.bl htx
          clear hG htx hc5 hlen hpos hT
          go_wp2_with fail
          go_ret
          refine ⟨?_, HG.out.1⟩
          rw [HG.out.2, ← H4.out.2.2]
          rfl
end Go.Proofs.YtpmanmoljlhogaaGreatDoor
/- Contract of the program's parted: the classes of the round behind one. -/
namespace Go.Proofs.YtpmanmoljlhogaaGreatDoor
open Go.RowKit Go.Maps
attribute [local go_sem ↓] Go.wp_at_zero Go.wp_at_succ
/-- Rows of steps in memory, as far as they are read. -/
structure Stp (w : World) (gs n : Nat) (out : Nat → List Ro.St) : Prop where
  row : ∀ i, i < n → ∃ a c, w.cell? ⟨gs, i, none⟩ = some (.slice a (out i).length c) ∧ BSteps.Has w (.slice a (out i).length c) (out i)
theorem Stp.below {w w' : World} {gs n : Nat} {out : Nat → List Ro.St} (h : Stp w gs n out) (hb : Below w.heap.size w w') : Stp w' gs n out :=
  ⟨fun i hi => by obtain ⟨a, c, h1, h2⟩ := h.row i hi; exact ⟨a, c, cell_up h1 hb, h2.below hb⟩⟩
/-- Steps whose labels and states are those of a system. -/
def Fit (n : Nat) (out : Nat → List Ro.St) : Prop := ∀ i, i < n → (out i).length ≤ 10000 ∧ ∀ z ∈ out i, (0 ≤ z.1 ∧ z.1 ≤ 300) ∧ 0 ≤ z.2 ∧ z.2 < (n : Int)
def tkey (s : ByteArray) : Lit := .string s.data.toList
theorem tkey_inj {s t : ByteArray} (h : tkey s = tkey t) : s = t := by
  unfold tkey at h
  injection h with h
  cases s; cases t
  simp at h; simp [h]
theorem tkey_key (s : ByteArray) : WideAt.IsKeyLit (tkey s) := by unfold tkey; exact trivial
/-- The map tells each text's number. -/
structure MapT (D : DataW Unit) (ns : List ByteArray) : Prop where
  yes : ∀ (i : Nat) (s : ByteArray), ns[i]? = some s → Maps.has D (tkey s) = true ∧ D.atKey (tkey s) (.lit (.int .i64 0)) = .lit (.int .i64 i)
  no : ∀ s : ByteArray, s ∉ ns → Maps.has D (tkey s) = false
  size : Maps.size D = ns.length
theorem MapT.nil : MapT (.map []) [] := ⟨fun i s h => by simp at h, fun s _ => rfl, rfl⟩
theorem MapT.snoc {D : DataW Unit} {ns : List ByteArray} (h : MapT D ns) (hD : IsMap D) (hT : Tidy D) (s : ByteArray) (hs : s ∉ ns) : MapT (D.put (tkey s) (.lit (.int .i64 ns.length))) (ns ++ [s]) := by
  refine ⟨fun i t ht => ?_, fun t ht => ?_, ?_⟩
  · rcases Nat.lt_or_ge i ns.length with hi | hi
    · rw [List.getElem?_append_left hi] at ht
      have hne : tkey t ≠ tkey s := fun e => hs (tkey_inj e ▸ List.mem_of_getElem? ht)
      rw [has_put_other hne, atKey_put_other hne]
      exact h.yes i t ht
    · rw [List.getElem?_append_right hi] at ht
      have hi0 : i - ns.length = 0 := by
        have := (List.getElem?_eq_some_iff.1 ht).1
        simp at this; omega
      rw [hi0] at ht
      simp at ht
      subst ht
      have : i = ns.length := by omega
      subst this
      exact ⟨has_put_same hD (tkey_key _) _, atKey_put_same hD (tkey_key _) _ _⟩
  · have hne : tkey t ≠ tkey s := fun e => ht (by rw [tkey_inj e]; simp)
    rw [has_put_other hne]
    exact h.no t fun hm => ht (by simp [hm])
  · rw [size_put hT, h.no s hs]
    simp [h.size]
/-- The text of a state. -/
def stx (n : Nat) (out : Nat → List Ro.St) (c : List Nat) (i : Nat) : ByteArray := sigB ((c[i]?).getD 0) (Ro.sd (Ro.ends n c (out i)))
def stxs (n : Nat) (out : Nat → List Ro.St) (c : List Nat) : List ByteArray := (List.range n).map (stx n out c)
theorem stxs_at {n i : Nat} (out : Nat → List Ro.St) (c : List Nat) (h : i < n) : (stxs n out c)[i]? = some (stx n out c i) := by
  unfold stxs
  rw [List.getElem?_map, List.getElem?_range h]; rfl
theorem ends_nonneg {n : Nat} {c : List Nat} {zs : List Ro.St} (hz : ∀ z ∈ zs, 0 ≤ z.1) : ∀ e ∈ Ro.sd (Ro.ends n c zs), 0 ≤ e := fun e he => by
  obtain ⟨z, hz1, rfl⟩ := List.mem_map.1 (Ro.mem_sd.1 he)
  have h1 : 0 ≤ z.1 * (n : Int) := Int.mul_nonneg (hz z hz1) (by omega)
  omega
/-- Numbered by their texts states have the classes of the next round. -/
theorem stxs_num {n : Nat} {out : Nat → List Ro.St} {c : List Nat} (hc : c.length = n) (hn : n ≤ 1000) (hcl : ∀ u ∈ c, u < n) (hF : Fit n out) : Ro.num (stxs n out c) = Ro.nx n out c := by
  unfold Ro.nx
  refine Ro.num_congr (by simp [stxs]) fun i j x y u v hx hy hu hv => ?_
  have hi : i < n := by have := (List.getElem?_eq_some_iff.1 hx).1; simpa [stxs] using this
  have hj : j < n := by have := (List.getElem?_eq_some_iff.1 hy).1; simpa [stxs] using this
  rw [stxs_at out c hi] at hx
  rw [stxs_at out c hj] at hy
  rw [Ro.key_at out c hi] at hu
  rw [Ro.key_at out c hj] at hv
  simp only [Option.some.injEq] at hx hy hu hv
  subst hx; subst hy; subst hu; subst hv
  have e1 : stx n out c i = stx n out c j ↔ Ro.sigL ((c[i]?).getD 0) (Ro.sd (Ro.ends n c (out i))) = Ro.sigL ((c[j]?).getD 0) (Ro.sd (Ro.ends n c (out j))) := by
    unfold stx sigB
    constructor
    · intro h; injection h with h; simpa using h
    · intro h; rw [h]
  rw [e1, Ro.sig_inj (by omega) (by omega) (ends_nonneg fun z hz => ((hF i hi).2 z hz).1.1) (ends_nonneg fun z hz => ((hF j hj).2 z hz).1.1)]
  unfold Ro.key
  rw [Prod.mk.injEq]
  have hM : ∀ t : Int, (Ro.cl c t : Int) < 1001 ∧ (Ro.cl c t : Int) < (n : Int) := fun t => by have := cl_lt hcl t (by omega); omega
  rw [Ro.ends_eq (fun z _ => (hM z.2).2) (fun z _ => (hM z.2).2), Ro.ends_eq (fun z _ => (hM z.2).1) (fun z _ => (hM z.2).1)]
/-- The list being made, and the map, in memory. -/
structure PtAt (w wr : World) (ts : List ByteArray) (n i : Nat) (D : DataW Unit) (seen : List ByteArray) : Prop where
  arr : Arr 3 w wr (w.heap.size + 1) (natC (Ro.num (ts.take i)) ++ List.replicate (n - i) (.int .i64 0))
  own : wr.ownsMap (H := Unit) Tryz.prog 9 (plainElem Tryz.prog 3) w.heap.size seen.length D
  map : MapT D seen
theorem ownsMap_up {w w' : World} {k : TypeId} {R : Value → Option (DataW Unit × List MemPlace)} {b n : Nat} {D : DataW Unit} (h : w.ownsMap Tryz.prog k R b n D) (hb : w'.heap[b]? = w.heap[b]?) : w'.ownsMap Tryz.prog k R b n D := by
  obtain ⟨es, clock, h1, h2⟩ := h
  exact ⟨es, clock, hb.trans h1, h2⟩
theorem PtAt.below {w wr w' : World} {ts : List ByteArray} {n i : Nat} {D : DataW Unit} {seen : List ByteArray} (h : PtAt w wr ts n i D seen) (hb : Below wr.heap.size wr w') : PtAt w w' ts n i D seen :=
  ⟨h.arr.below hb, ownsMap_up h.own (hb.block _ h.own.lt), h.map⟩
theorem arr_mapTurn5 {w wr w3 : World} {gi : Nat} {vs : List Value} {bm : Nat} (h : Arr 3 w wr gi vs) (hg : wr.grownBy w3 (some bm)) (hb : w.heap.size ≤ bm) (hne : bm ≠ gi) : Arr 3 w w3 gi vs :=
  h.kept (Kept.of_grown hg) fun b e => by injection e with e; subst e; exact ⟨hb, hne⟩
theorem pt_step {w w3 w4 : World} {ts : List ByteArray} {n i k : Nat} {D2 : DataW Unit} {seen s2 : List ByteArray} {z : ByteArray} (hz : ts[i]? = some z) (hi : i < n) (hn : n = ts.length) (hs : seen = Ro.dd (ts.take i)) (hA : Arr 3 w w3 (w.heap.size + 1) (natC (Ro.num (ts.take i)) ++ List.replicate (n - i) (.int .i64 0)))
    (hk : k = Ro.place z seen) (h4 : w4 = w3.setCell ⟨w.heap.size + 1, i, none⟩ (.int .i64 (k : Int))) (ho : w3.ownsMap (H := Unit) Tryz.prog 9 (plainElem Tryz.prog 3) w.heap.size s2.length D2) (hm : MapT D2 s2) :
    PtAt w w4 ts n (i + 1) D2 s2 := by
  subst h4
  have hC : (Ro.num (ts.take i)).length = i := by rw [Ro.num_len, List.length_take]; omega
  have hAs := hA.set i (.int .i64 (k : Int))
  rw [natC_step _ n i k hC hi] at hAs
  refine ⟨?_, ho.setCell (by simp) _, hm⟩
  rw [take_succ_of hz, Ro.num_snoc, ← hs, ← hk]
  exact hAs
theorem Tryz.lawS5 : Keyed Tryz.prog 9 := string_keyed Tryz.underlying9
theorem Tryz.zeroI5 (w : World) : (zeroValue 3).run Tryz.prog w = .ok (.int .i64 0) w := by kernel_rfl
set_option maxRecDepth 100000 in
set_option maxHeartbeats 8000000 in
theorem parted_any (gs n : Nat) (out : Nat → List Ro.St) (c : List Nat) (vc : Value) (w : World) (hn : n ≤ 1000) (hc : c.length = n) (hcl : ∀ u ∈ c, u < n) (hF : Fit n out) (hS : Stp w gs n out) (hv : HasI w vc (natI c)) (hP : Pow w) :
    Calls Tryz.prog 98 #[.slice (some ⟨gs, 0, none⟩) n n, vc] w fun r w' => ∃ g, r = .returned (.slice (some ⟨g, 0, none⟩) n n) ∧ Arr 3 w w' g (natC (Ro.nx n out c)) := by
  have hv0 := hv
  obtain ⟨ac, cc, rfl, hcs⟩ := hv
  have hcn : (natI c).length = n := by simp [natI, hc]
  rw [hcn] at hv0 ⊢
  obtain ⟨ts, hts⟩ : ∃ ts, ts = stxs n out c := ⟨_, rfl⟩
  have htl : n = ts.length := by rw [hts]; simp [stxs]
  have hnum : Ro.num ts = Ro.nx n out c := by rw [hts]; exact stxs_num hc hn hcl hF
  have HH : Hid _ := And.intro hcs (And.intro hv0 (And.intro hc (And.intro hcl (And.intro hF (And.intro hS (And.intro hP (And.intro hts (And.intro htl hnum))))))))
  clear hcs hc hcl hF hS hv0 hP hcn hts htl hnum
  have hmm := @run_makeMap Tryz.prog
  have hmk := makeI n (by omega) (w.alloc (.map #[] 0))
  go_enter Tryz.func98, Tryz.ntmps98
  go_wp2_with fail
  clear hmk hmm
  go_loopg [18] n (fun q iv wr => ∃ (i : Nat) (D : DataW Unit) (seen : List ByteArray), q = n - i ∧ i ≤ n ∧ iv = .int .i64 i ∧ seen = Ro.dd (ts.take i) ∧ PtAt w wr ts n i D seen)
  case atStart =>
    refine ⟨0, .map [], [], rfl, Nat.zero_le _, rfl, by simp [Ro.dd], ?_, ?_, MapT.nil⟩
    · have h1 := arr_new 3 (.int .i64 0) rfl n (w.alloc (.map #[] 0))
      have h2 := h1.back ((Below.refl _ w).alloc (Nat.le_refl _) _)
      simpa [Ro.num, natC] using h2
    · have := World.ownsMap_made (H := Unit) w Tryz.prog 9 (plainElem Tryz.prog 3)
      exact this.alloc _
  case round =>
    obtain ⟨i, D, seen, rfl, hi, rfl, hseen, hM⟩ := hrel
    obtain ⟨w1, rfl⟩ : ∃ w1, w1 = wr := ⟨_, rfl⟩
    by_cases hlt : i < n
    · obtain ⟨x, hx⟩ : ∃ x, c[i]? = some x := ⟨c[i]'(by have := HH.out.2.2.1; omega), List.getElem?_eq_getElem _⟩
      have hxn := HH.out.2.2.2.1 x (List.mem_of_getElem? hx)
      obtain ⟨a, rfl, c0⟩ := HH.out.1 i (x : Int) (by simp [natI, hx])
      have cz : w1.cell? (a.add i) = some (.int .i64 x) := (hM.arr.bl.cell (World.block_lt_of_cell? w _ c0)).trans c0
      obtain ⟨ar, cr, cs, hrow⟩ := (HH.out.2.2.2.2.2.1.below hM.arr.bl).row i hlt
      have hfit := HH.out.2.2.2.2.1 i hlt
      have hSg := signature_any x n c (out i) _ _ w1 (by omega) hn HH.out.2.2.1 HH.out.2.2.2.1 hfit.2 hfit.1 hrow (HH.out.2.1.below hM.arr.bl) (HH.out.2.2.2.2.2.2.1.below hM.arr.bl)
      obtain ⟨s, hs⟩ : ∃ s, s = stx n out c i := ⟨_, rfl⟩
      have hse : sigB (x : Int) (Ro.sd (Ro.ends n c (out i))) = s := by rw [hs]; unfold stx; rw [hx]; rfl
      rw [hse] at hSg
      have hsz : s.size ≤ 100000 := by
        rw [← hse]
        have h1 := Ro.sigL_len x (Ro.sd (Ro.ends n c (out i))) (by omega) (by omega) (fun e he => by
          obtain ⟨z, hz1, rfl⟩ := List.mem_map.1 (Ro.mem_sd.1 he)
          have h1 := hfit.2 z hz1
          have h2 := cl_lt HH.out.2.2.2.1 z.2 (by omega)
          have hm0 : 0 ≤ z.1 * (n : Int) := Int.mul_nonneg h1.1.1 (by omega)
          have hm1 : z.1 * (n : Int) ≤ 300 * 1000 := Int.mul_le_mul h1.1.2 (by omega) (by omega) (by omega)
          omega)
        have h2 := Ro.sd_len (Ro.ends n c (out i))
        have h3 : (Ro.ends n c (out i)).length = (out i).length := by simp [Ro.ends]
        have h4 : (sigB (x : Int) (Ro.sd (Ro.ends n c (out i)))).size = (Ro.sigL x (Ro.sd (Ro.ends n c (out i)))).length := by simp [sigB, ByteArray.size]
        omega
      have hti : ts[i]? = some s := by rw [HH.out.2.2.2.2.2.2.2.1, hs]; exact stxs_at out c hlt
      have hkey : keyOf Tryz.prog 9 (.string s) = some (tkey s) := Go.WideMaps.keyOf_string_mk Tryz.underlying9 (by unfold maxLen; omega)
      obtain ⟨Lr, hLr⟩ : ∃ Lr, Lr = (out i).length := ⟨_, rfl⟩
      rw [← hLr] at hSg cs
      have q0 : (0 : Int) ≤ (i : Int) := by omega
      have q1 : (i : Int) < (n : Int) := by omega
      have hsl : seen.length ≤ i := by
        have := Ro.dd_le (ts.take i)
        rw [← hseen, List.length_take] at this
        omega
      have hix : (natC (Ro.num (ts.take i)) ++ List.replicate (n - i) (Value.int .i64 0))[i]? = some (.int .i64 0) := by
        have hnl := HH.out.2.2.2.2.2.2.2.2.1
        rw [List.getElem?_append_right (by rw [natC_len, Ro.num_len, List.length_take]; omega), natC_len, Ro.num_len, List.length_take, List.getElem?_replicate, if_pos (by omega)]
      have HS : Hid _ := And.intro hSg (And.intro hM (And.intro hseen (And.intro hti hix)))
      clear hSg hM hseen hti hx hrow hfit hse hs hLr c0 hsz hix
      go_upto_region 7 with (go_at_call 136; refine Calls.mono HS.out.1 ?_; rintro r w2 ⟨rfl, hb2⟩; have HB2 : Hid _ := hb2; clear hb2)
      have hM2 := HS.out.2.1.below HB2.out
      by_cases hin : s ∈ seen
      · obtain ⟨hy1, hy2⟩ := hM2.map.yes _ s (Ro.place_at hin)
        have cx := hM2.arr.cell HS.out.2.2.2.2
        have cf := hM2.arr.free i
        have HO : Hid (w2.ownsMap (H := Unit) Tryz.prog 9 (plainElem Tryz.prog 3) w.heap.size seen.length D) := hM2.own
        have HY : Hid (D.atKey (tkey s) (.lit (.int .i64 0)) = .lit (.int .i64 (Ro.place s seen : Nat))) := hy2
        have HM : Hid _ := And.intro hM2 (And.intro trivial hin)
        clear hM2 hy2 hin
        obtain ⟨k, hk⟩ : ∃ k, k = Ro.place s seen := ⟨_, rfl⟩
        rw [← hk] at HY
        have HK : Hid (k = Ro.place s seen) := hk
        clear hk
        go_wp2_with (at_lookup; refine wpList_lookup_own_ok_int _ rfl _ _ 186 rfl 9 3 .i64 Tryz.lawS5 Tryz.underlying186 Tryz.underlying3 (Tryz.zeroI5 _) w.heap.size seen.length D rfl HO.out _ _ rfl hkey ?_; rw [hy1]; intro c hat hwc; obtain rfl : c = (k : Int) := (by rw [HY.out] at hat; injection hat with hat; injection hat with _ hat; exact hat.symm); clear hat hwc)
        go_roundg (n - (i + 1))
        case measure => omega
        case rel =>
          exact ⟨i + 1, D, seen, rfl, by omega, by go_num, by rw [take_succ_of HS.out.2.2.2.1, Ro.dd_snoc, ← HS.out.2.2.1]; unfold Ro.more; rw [if_pos HM.out.2.2], pt_step HS.out.2.2.2.1 hlt HH.out.2.2.2.2.2.2.2.2.1 HS.out.2.2.1 HM.out.1.arr HK.out rfl HO.out HM.out.1.map⟩
      · have hy1 := hM2.map.no s hin
        have HO : Hid (w2.ownsMap (H := Unit) Tryz.prog 9 (plainElem Tryz.prog 3) w.heap.size seen.length D) := hM2.own
        have hml : seen.length < maxLen := by unfold maxLen; omega
        have hsz : Maps.size D = seen.length := hM2.map.size
        obtain ⟨m, hm⟩ : ∃ m, m = seen.length := ⟨_, rfl⟩
        have HM : Hid _ := And.intro hM2 (And.intro hin hm)
        rw [← hm] at HO hml hsz hsl
        have hwf : (Lit.int .i64 (m : Int)).wf = true := WalkArith.wf_i64 (by omega)
        have HZ : Hid _ := hsz
        clear hM2 hin hm hsz
        go_wp2_with (first
          | (at_lookup; refine wpList_lookup_own_ok_int _ rfl _ _ 186 rfl 9 3 .i64 Tryz.lawS5 Tryz.underlying186 Tryz.underlying3 (Tryz.zeroI5 _) w.heap.size m D rfl HO.out _ _ rfl hkey ?_; rw [hy1]; intro c hat hwc; clear hat hwc)
          | (at_len; refine wpList_len_own _ rfl _ 186 rfl 9 3 Tryz.underlying186 _ w.heap.size m D rfl HO.out ?_; rw [HZ.out])
          | (at_mapUpdate; refine wpList_mapUpdate_own _ rfl _ _ _ 186 rfl 9 3 Tryz.lawS5 Tryz.underlying186 _ w.heap.size m D rfl HO.out hml _ _ _ rfl rfl hkey _ [] (plainElem_int Tryz.underlying3 hwf) ?_; intro w3 hown3 hgrow3; have hA3 := arr_mapTurn5 HM.out.1.arr hgrow3 (Nat.le_refl _) (by omega); have cx := hA3.cell HS.out.2.2.2.2; have cf := hA3.free i; have H3 : Hid _ := And.intro hA3 hown3; clear hA3 hown3 hgrow3))
        go_roundg (n - (i + 1))
        case measure => omega
        case rel =>
          have hm := HM.out.2.2
          have h3 := H3.out.2
          have hmp := HM.out.1.map.snoc HM.out.1.own.isMap (HM.out.1.own.tidy Tryz.lawS5) s HM.out.2.1
          rw [← hm] at hmp
          have el : m + 1 = (seen ++ [s]).length := by simp [hm]
          rw [el] at h3
          exact ⟨i + 1, _, seen ++ [s], rfl, by omega, by go_num, by rw [take_succ_of HS.out.2.2.2.1, Ro.dd_snoc, ← HS.out.2.2.1]; unfold Ro.more; rw [if_neg HM.out.2.1], pt_step HS.out.2.2.2.1 hlt HH.out.2.2.2.2.2.2.2.2.1 HS.out.2.2.1 H3.out.1 (by rw [Ro.place_no HM.out.2.1, hm]) rfl h3 hmp⟩
    · obtain rfl : i = n := by omega
      have q1 : ¬ (i : Int) < (i : Int) := by omega
      have HM : Hid _ := hM.arr
      clear hM hseen
      go_wp2_with fail
      go_ret
      have hA := HM.out
      have hl : i = ts.length := HH.out.2.2.2.2.2.2.2.2.1
      rw [hl, Nat.sub_self, List.replicate_zero, List.append_nil, List.take_length, HH.out.2.2.2.2.2.2.2.2.2] at hA
      exact ⟨_, rfl, hA⟩
end Go.Proofs.YtpmanmoljlhogaaGreatDoor
/- Plain facts on rows of edges in order: how many come ahead of a row, and where a row stands. -/
namespace Go.Proofs.YtpmanmoljlhogaaGreatDoor.Sy
/-- How many stand in rows ahead of this one. -/
def cnt (l : List Ed) (r : Int) : Nat := (l.filter fun e => decide (e.1 < r)).length
/-- Rows that do not fall. -/
def Rows (l : List Ed) : Prop := l.Pairwise fun a b => a.1 ≤ b.1
theorem cnt_le (l : List Ed) (r : Int) : cnt l r ≤ l.length := List.length_filter_le _ _
theorem cnt_all {l : List Ed} {r : Int} (h : ∀ e ∈ l, e.1 < r) : cnt l r = l.length := by
  unfold cnt
  rw [List.filter_eq_self.2 fun e he => by simpa using h e he]
theorem cnt_none {l : List Ed} {r : Int} (h : ∀ e ∈ l, ¬ e.1 < r) : cnt l r = 0 := by
  unfold cnt
  rw [List.filter_eq_nil_iff.2 fun e he => by simpa using h e he]
  rfl
theorem cnt_cons (e : Ed) (l : List Ed) (r : Int) : cnt (e :: l) r = (if e.1 < r then 1 else 0) + cnt l r := by
  unfold cnt
  rw [List.filter_cons]
  by_cases h : e.1 < r
  · simp [h]; omega
  · simp [h]
theorem cnt_snoc (l : List Ed) (e : Ed) (r : Int) : cnt (l ++ [e]) r = cnt l r + if e.1 < r then 1 else 0 := by
  unfold cnt
  rw [List.filter_append, List.length_append]
  by_cases h : e.1 < r <;> simp [h]
theorem cnt_mono (l : List Ed) (r : Int) : cnt l r ≤ cnt l (r + 1) := by
  induction l with
  | nil => simp [cnt]
  | cons e t ih =>
    rw [cnt_cons, cnt_cons]
    by_cases h : e.1 < r
    · have h2 : e.1 < r + 1 := by omega
      simp [h, h2]; exact ih
    · by_cases h2 : e.1 < r + 1 <;> simp [h, h2] <;> omega
/-- A row is a piece of the list. -/
theorem row_piece {l : List Ed} (h : Rows l) (i : Int) : l.filter (fun e => e.1 == i) = (l.drop (cnt l i)).take (cnt l (i + 1) - cnt l i) := by
  induction l with
  | nil => simp
  | cons e r ih =>
    obtain ⟨h1, h2⟩ := List.pairwise_cons.1 h
    have ih := ih h2
    rw [cnt_cons, cnt_cons]
    by_cases c1 : e.1 < i
    · have c2 : e.1 < i + 1 := by omega
      have c3 : (e.1 == i) = false := by simp; omega
      rw [List.filter_cons, c3, if_pos c1, if_pos c2, Nat.add_comm 1 (cnt r i), List.drop_succ_cons]
      have e1 : 1 + cnt r (i + 1) - (cnt r i + 1) = cnt r (i + 1) - cnt r i := by omega
      rw [e1]
      simpa using ih
    · have hz : cnt r i = 0 := cnt_none fun x hx => by have := h1 x hx; omega
      by_cases c2 : e.1 = i
      · have c3 : (e.1 == i) = true := by simp [c2]
        have c4 : e.1 < i + 1 := by omega
        rw [List.filter_cons, c3, if_neg c1, if_pos c4, hz]
        rw [hz] at ih
        simp only [List.drop_zero, Nat.sub_zero, if_true] at ih ⊢
        rw [ih, Nat.add_comm 1]
        simp
      · have c3 : (e.1 == i) = false := by simpa using c2
        have c4 : ¬ e.1 < i + 1 := by omega
        have hz2 : cnt r (i + 1) = 0 := cnt_none fun x hx => by have := h1 x hx; omega
        rw [List.filter_cons, c3, if_neg c1, if_neg c4, hz, hz2]
        rw [hz, hz2] at ih
        simpa using ih
/-- Behind which place the last one of a row stands; 0, if there is none. -/
def lastOf (l : List Ed) (r : Int) : Nat := (l.foldl (fun (p : Nat × Nat) e => (p.1 + 1, if e.1 = r then p.1 + 1 else p.2)) (0, 0)).2
theorem last_fst (r : Int) (l : List Ed) : ∀ p : Nat × Nat, (l.foldl (fun (p : Nat × Nat) (e : Ed) => (p.1 + 1, if e.1 = r then p.1 + 1 else p.2)) p).1 = p.1 + l.length := by
  induction l with
  | nil => intro p; rfl
  | cons e t ih => intro p; rw [List.foldl_cons, ih]; simp; omega
theorem last_snoc (l : List Ed) (e : Ed) (r : Int) : lastOf (l ++ [e]) r = if e.1 = r then l.length + 1 else lastOf l r := by
  unfold lastOf
  rw [List.foldl_append]
  simp only [List.foldl_cons, List.foldl_nil, last_fst, Nat.zero_add]
theorem last_none {l : List Ed} {r : Int} (h : ∀ e ∈ l, e.1 ≠ r) : ∀ i, i ≤ l.length → lastOf (l.take i) r = 0 := by
  intro i
  induction i with
  | zero => intro _; rfl
  | succ i ih =>
    intro hi
    obtain ⟨x, hx⟩ : ∃ x, l[i]? = some x := ⟨l[i], List.getElem?_eq_getElem _⟩
    rw [take_succ_of hx, last_snoc, if_neg (h x (List.mem_of_getElem? hx))]
    exact ih (by omega)
theorem rows_take {l : List Ed} (h : Rows l) {i : Nat} {x : Ed} (hx : l[i]? = some x) : ∀ e ∈ l.take i, e.1 ≤ x.1 := fun e he => by
  obtain ⟨j, hj, rfl⟩ := List.mem_take_iff_getElem.1 he
  obtain ⟨hi, rfl⟩ := List.getElem?_eq_some_iff.1 hx
  exact List.pairwise_iff_getElem.1 h j i (by omega) hi (by omega)
theorem cnt_last {l : List Ed} (h : Rows l) (r : Int) : ∀ i, i ≤ l.length → cnt (l.take i) (r + 1) = max (lastOf (l.take i) r) (cnt (l.take i) r) := by
  intro i
  induction i with
  | zero => intro _; simp [cnt, lastOf]
  | succ i ih =>
    intro hi
    obtain ⟨x, hx⟩ : ∃ x, l[i]? = some x := ⟨l[i], List.getElem?_eq_getElem _⟩
    have hle := rows_take h hx
    have hlen : (l.take i).length = i := by rw [List.length_take]; omega
    rw [take_succ_of hx, cnt_snoc, cnt_snoc, last_snoc, hlen]
    by_cases c1 : x.1 = r
    · have e1 : cnt (l.take i) (r + 1) = i := by rw [cnt_all fun e he => by have := hle e he; omega]; exact hlen
      have e2 := cnt_le (l.take i) r
      rw [hlen] at e2
      rw [e1, if_pos (by omega), if_pos c1, if_neg (by omega)]
      omega
    · by_cases c2 : x.1 < r
      · have e1 : cnt (l.take i) (r + 1) = i := by rw [cnt_all fun e he => by have := hle e he; omega]; exact hlen
        have e2 : cnt (l.take i) r = i := by rw [cnt_all fun e he => by have := hle e he; omega]; exact hlen
        have e3 := last_none (l := l.take i) (r := r) (fun e he => by have := hle e he; omega) i (by rw [hlen]; exact Nat.le_refl _)
        rw [List.take_take, Nat.min_self] at e3
        rw [e1, e2, e3, if_pos (by omega), if_neg c1, if_pos c2]
        omega
      · rw [if_neg (by omega), if_neg c1, if_neg c2]
        exact ih (by omega)
/-- The bounds behind the first loop, and while the second one runs: states below st have theirs. -/
def mixL (n : Nat) (l : List Ed) (st : Nat) : List Int := (List.range (n + 1)).map fun (r : Nat) => if r ≤ st then ((cnt l (r : Int) : Nat) : Int) else ((lastOf l ((r : Int) - 1) : Nat) : Int)
def bndL (n : Nat) (l : List Ed) : List Int := (List.range (n + 1)).map fun (r : Nat) => if r = 0 then 0 else ((lastOf l ((r : Int) - 1) : Nat) : Int)
def bounds (n : Nat) (l : List Ed) : List Int := (List.range (n + 1)).map fun (r : Nat) => ((cnt l (r : Int) : Nat) : Int)
theorem bnd_zero (n : Nat) : bndL n [] = List.replicate (n + 1) 0 := by
  unfold bndL
  rw [List.eq_replicate_iff]
  refine ⟨by simp, fun b hb => ?_⟩
  obtain ⟨r, _, rfl⟩ := List.mem_map.1 hb
  split <;> simp [lastOf]
theorem bnd_step {l : List Ed} {n i : Nat} {x : Ed} (hx : l[i]? = some x) {q : Nat} (hq : x.1 = (q : Int)) : (bndL n (l.take i)).set (q + 1) ((i : Int) + 1) = bndL n (l.take (i + 1)) := by
  have hlen : (l.take i).length = i := by rw [List.length_take]; have := (List.getElem?_eq_some_iff.1 hx).1; omega
  apply List.ext_getElem?
  intro r
  rw [List.getElem?_set]
  unfold bndL
  simp only [List.length_map, List.length_range, List.getElem?_map]
  by_cases hr : r < n + 1
  · rw [List.getElem?_range hr, take_succ_of hx]
    simp only [Option.map_some, last_snoc, hlen, hq]
    by_cases e : q + 1 = r
    · subst e
      rw [if_pos rfl, if_pos hr, if_neg (by omega), if_pos (by omega)]
      rfl
    · rw [if_neg e]
      by_cases e0 : r = 0
      · rw [if_pos e0, if_pos e0]
      · rw [if_neg e0, if_neg e0, if_neg (by omega)]
  · rw [List.getElem?_eq_none (by simp; omega)]
    by_cases e : q + 1 = r
    · rw [if_pos e, if_neg (by omega)]; rfl
    · rw [if_neg e]; rfl
theorem mix_zero {n : Nat} {l : List Ed} (h : ∀ e ∈ l, 0 ≤ e.1) : mixL n l 0 = bndL n l := by
  unfold mixL bndL
  apply List.map_congr_left
  intro r _
  by_cases e : r = 0
  · subst e
    simp only [Nat.le_refl, if_true]
    rw [cnt_none fun x hx => by have := h x hx; omega]
    rfl
  · rw [if_neg (by omega), if_neg e]
theorem mix_full (n : Nat) (l : List Ed) : mixL n l n = bounds n l := by
  unfold mixL bounds
  apply List.map_congr_left
  intro r hr
  have := List.mem_range.1 hr
  rw [if_pos (by omega)]
theorem mix_at {n st r : Nat} {l : List Ed} (hr : r ≤ n) : (mixL n l st)[r]? = some (if r ≤ st then ((cnt l (r : Int) : Nat) : Int) else ((lastOf l ((r : Int) - 1) : Nat) : Int)) := by
  unfold mixL
  rw [List.getElem?_map, List.getElem?_range (by omega)]
  rfl
theorem bounds_at {n r : Nat} {l : List Ed} (hr : r ≤ n) : (bounds n l)[r]? = some ((cnt l (r : Int) : Nat) : Int) := by
  unfold bounds
  rw [List.getElem?_map, List.getElem?_range (by omega)]
  rfl
theorem mix_step {n st : Nat} {l : List Ed} (h : Rows l) : (mixL n l st).set (st + 1) (((max (lastOf l (st : Int)) (cnt l (st : Int)) : Nat)) : Int) = mixL n l (st + 1) := by
  have hc := cnt_last h (st : Int) l.length (Nat.le_refl _)
  rw [List.take_length] at hc
  apply List.ext_getElem?
  intro r
  rw [List.getElem?_set]
  unfold mixL
  simp only [List.length_map, List.length_range, List.getElem?_map]
  by_cases hr : r < n + 1
  · rw [List.getElem?_range hr]
    simp only [Option.map_some]
    by_cases e : st + 1 = r
    · subst e
      rw [if_pos rfl, if_pos hr, if_pos (Nat.le_refl _), ← hc]
      rfl
    · rw [if_neg e]
      by_cases e2 : r ≤ st
      · rw [if_pos e2, if_pos (by omega)]
      · rw [if_neg e2, if_neg (by omega)]
  · rw [List.getElem?_eq_none (by simp; omega)]
    by_cases e : st + 1 = r
    · rw [if_pos e, if_neg (by omega)]; rfl
    · rw [if_neg e]; rfl
end Go.Proofs.YtpmanmoljlhogaaGreatDoor.Sy
