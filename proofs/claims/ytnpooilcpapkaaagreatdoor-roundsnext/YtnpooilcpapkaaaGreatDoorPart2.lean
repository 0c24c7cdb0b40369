/- Texts of this claim, joined: Shelf, SoInts, RoSig, RoSig2. -/
import Derived.Shelf.Small.Bits
import Derived.Shelf.Small.Wraps
import Derived.Shelf.Strconv.Itoa0
import Derived.Shelf.Strconv.Itoa1
import Derived.Shelf.LaysM
import Derived.Shelf.Strconv.Itoa2
import Derived.Shelf.Sort.Plain
import Derived.Shelf.Strconv.AppendUint10
import Derived.Shelf.Strconv.AppendInt10
import Derived.Shelf.Strconv.AppendIntPublic10
import Derived.Shelf.Bits.Mul64
import Derived.Ground.Names2Prog
import Derived.Shelf.Slices.CompactI
import Derived.Test.YtnpooilcpapkaaaGreatDoorProg
import Derived.Test.YtnpooilcpapkaaaGreatDoorPart0
import Derived.Sort.OwnSortedInts
import Derived.Test.YtnpooilcpapkaaaGreatDoorPart1
import Derived.Laws.IdiomStrings
import Derived.Lib.AppendIntMem
import Derived.WalkSmall
import Derived.Deep.RegionHeld3
import Derived.Deep.DrawnRows
/- Contracts of three functions of Go's library at this program, laid by the shelf's own tools in plain words. -/
namespace Go.Proofs
open Go.Shelf
def Tryz.lays128_ren : Go.Shelf.Ren := ⟨fun | 128 => 194 | n => n, fun | 51 => 207 | 3 => 3 | 4 => 4 | 46 => 169 | 5 => 5 | 9 => 9 | n => n, fun | n => n⟩
theorem Tryz.lays128 : Go.Proofs.Lays.n128 Tryz.prog Tryz.lays128_ren := {
  mixed := by kernel_rfl
  f128 := Tryz.func194.trans (congrArg some (by kernel_rfl))
  t3 := Tryz.underlying3
  a3 := Tryz.isAgg3
  z3 := Tryz.sizeOf3
  v3 := Tryz.zeroValue3
  t4 := Tryz.underlying4
  a4 := Tryz.isAgg4
  z4 := Tryz.sizeOf4
  v4 := Tryz.zeroValue4
  t5 := Tryz.underlying5
  a5 := Tryz.isAgg5
  z5 := Tryz.sizeOf5
  v5 := Tryz.zeroValue5
  t9 := Tryz.underlying9
  a9 := Tryz.isAgg9
  z9 := Tryz.sizeOf9
  v9 := Tryz.zeroValue9
  t46 := Tryz.underlying169
  a46 := Tryz.isAgg169
  z46 := Tryz.sizeOf169
  v46 := Tryz.zeroValue169
  t51 := Tryz.underlying207
  a51 := Tryz.isAgg207
  z51 := Tryz.sizeOf207
  v51 := Tryz.zeroValue207 }
theorem Tryz.bits_Len32 (x : Int) (w : World) (h0 : 0 ≤ x) (h1 : x ≤ 4294967295) :
    Calls Tryz.prog 194 #[.int .u32 x] w fun e w' => e = .returned (.int .i64 (Lib.bitLen x.toNat)) ∧ w' = w := Any.bits_Len32 Tryz.lays128 x w h0 h1
def Tryz.lays125_ren : Go.Shelf.Ren := ⟨fun | 125 => 161 | 128 => 194 | 129 => 195 | n => n, fun | 46 => 169 | 3 => 3 | 51 => 207 | 53 => 210 | 4 => 4 | 5 => 5 | 9 => 9 | n => n, fun | n => n⟩
theorem Tryz.lays125 : Go.Proofs.Lays.n125 Tryz.prog Tryz.lays125_ren := {
  mixed := by kernel_rfl
  f125 := Tryz.func161.trans (congrArg some (by kernel_rfl))
  f128 := Tryz.func194.trans (congrArg some (by kernel_rfl))
  f129 := Tryz.func195.trans (congrArg some (by kernel_rfl))
  t3 := Tryz.underlying3
  a3 := Tryz.isAgg3
  z3 := Tryz.sizeOf3
  v3 := Tryz.zeroValue3
  t4 := Tryz.underlying4
  a4 := Tryz.isAgg4
  z4 := Tryz.sizeOf4
  v4 := Tryz.zeroValue4
  t5 := Tryz.underlying5
  a5 := Tryz.isAgg5
  z5 := Tryz.sizeOf5
  v5 := Tryz.zeroValue5
  t9 := Tryz.underlying9
  a9 := Tryz.isAgg9
  z9 := Tryz.sizeOf9
  v9 := Tryz.zeroValue9
  t46 := Tryz.underlying169
  a46 := Tryz.isAgg169
  z46 := Tryz.sizeOf169
  v46 := Tryz.zeroValue169
  t51 := Tryz.underlying207
  a51 := Tryz.isAgg207
  z51 := Tryz.sizeOf207
  v51 := Tryz.zeroValue207
  t53 := Tryz.underlying210
  a53 := Tryz.isAgg210
  z53 := Tryz.sizeOf210
  v53 := Tryz.zeroValue210 }
theorem Tryz.bits_Len (x : Int) (w : World) (h0 : 0 ≤ x) (h1 : x ≤ 18446744073709551615) :
    Calls Tryz.prog 161 #[.int .u64 x] w fun e w' => e = .returned (.int .i64 (Lib.bitLen x.toNat)) ∧ w' = w := Any.bits_Len Tryz.lays125 x w h0 h1
def Tryz.lays215_ren : Go.Shelf.Ren := ⟨fun | 215 => 196 | n => n, fun | 3 => 3 | 4 => 4 | n => n, fun | n => n⟩
theorem Tryz.lays215 : Go.Proofs.Lays.n215 Tryz.prog Tryz.lays215_ren := {
  mixed := by kernel_rfl
  f215 := Tryz.func196.trans (congrArg some (by kernel_rfl))
  t3 := Tryz.underlying3
  a3 := Tryz.isAgg3
  z3 := Tryz.sizeOf3
  v3 := Tryz.zeroValue3
  t4 := Tryz.underlying4
  a4 := Tryz.isAgg4
  z4 := Tryz.sizeOf4
  v4 := Tryz.zeroValue4 }
open Go.RowKit in
theorem Tryz.cmp_isNaN_int (x : Int) (w : World) :
    Calls Tryz.prog 196 #[.int .i64 x] w fun e w' => e = .returned (.bool false) ∧ w' = w := Any.cmp_isNaN_int Tryz.lays215 x w
def Tryz.lays122_ren : Go.Shelf.Ren := ⟨fun | 122 => 163 | 215 => 196 | n => n, fun | 3 => 3 | 4 => 4 | n => n, fun | n => n⟩
theorem Tryz.lays122 : Go.Proofs.Lays.n122 Tryz.prog Tryz.lays122_ren := {
  mixed := by kernel_rfl
  f122 := Tryz.func163.trans (congrArg some (by kernel_rfl))
  f215 := Tryz.func196.trans (congrArg some (by kernel_rfl))
  t3 := Tryz.underlying3
  a3 := Tryz.isAgg3
  z3 := Tryz.sizeOf3
  v3 := Tryz.zeroValue3
  t4 := Tryz.underlying4
  a4 := Tryz.isAgg4
  z4 := Tryz.sizeOf4
  v4 := Tryz.zeroValue4 }
open Go.RowKit in
theorem Tryz.cmp_Compare_int (x y : Int) (w : World) :
    Calls Tryz.prog 163 #[.int .i64 x, .int .i64 y] w fun e w' => e = .returned (.int .i64 (Lib.compareInt x y)) ∧ w' = w := Any.cmp_Compare_int Tryz.lays122 x y w
def Tryz.lays129_ren : Go.Shelf.Ren := ⟨fun | 129 => 195 | n => n, fun | 53 => 210 | 3 => 3 | 4 => 4 | 46 => 169 | 5 => 5 | 9 => 9 | n => n, fun | n => n⟩
theorem Tryz.lays129 : Go.Proofs.Lays.n129 Tryz.prog Tryz.lays129_ren := {
  mixed := by kernel_rfl
  f129 := Tryz.func195.trans (congrArg some (by kernel_rfl))
  t3 := Tryz.underlying3
  a3 := Tryz.isAgg3
  z3 := Tryz.sizeOf3
  v3 := Tryz.zeroValue3
  t4 := Tryz.underlying4
  a4 := Tryz.isAgg4
  z4 := Tryz.sizeOf4
  v4 := Tryz.zeroValue4
  t5 := Tryz.underlying5
  a5 := Tryz.isAgg5
  z5 := Tryz.sizeOf5
  v5 := Tryz.zeroValue5
  t9 := Tryz.underlying9
  a9 := Tryz.isAgg9
  z9 := Tryz.sizeOf9
  v9 := Tryz.zeroValue9
  t46 := Tryz.underlying169
  a46 := Tryz.isAgg169
  z46 := Tryz.sizeOf169
  v46 := Tryz.zeroValue169
  t53 := Tryz.underlying210
  a53 := Tryz.isAgg210
  z53 := Tryz.sizeOf210
  v53 := Tryz.zeroValue210 }
theorem Tryz.bits_Len64 (x : Int) (w : World) (h0 : 0 ≤ x) (h1 : x ≤ 18446744073709551615) :
    Calls Tryz.prog 195 #[.int .u64 x] w fun e w' => e = .returned (.int .i64 (Lib.bitLen x.toNat)) ∧ w' = w := Any.bits_Len64 Tryz.lays129 x w h0 h1
def Tryz.lays317_ren : Go.Shelf.Ren := ⟨fun | 317 => 234 | n => n, fun | 3 => 3 | 46 => 169 | n => n, fun | n => n⟩
theorem Tryz.lays317 : Go.Proofs.Lays.n317 Tryz.prog Tryz.lays317_ren := {
  mixed := by kernel_rfl
  f317 := Tryz.func234.trans (congrArg some (by kernel_rfl))
  t3 := Tryz.underlying3
  a3 := Tryz.isAgg3
  z3 := Tryz.sizeOf3
  v3 := Tryz.zeroValue3
  t46 := Tryz.underlying169
  a46 := Tryz.isAgg169
  z46 := Tryz.sizeOf169
  v46 := Tryz.zeroValue169 }
open Go.Lib in
theorem Tryz.internal_strconv_log10Pow2 (x : Nat) (h : x ≤ 64) (w : World) :
    Calls Tryz.prog 234 #[.int .i64 x] w fun e w' => e = .returned (.int .i64 (Lib.l10 x)) ∧ w' = w := Any.internal_strconv_log10Pow2 Tryz.lays317 x h w
def Tryz.lays318_ren : Go.Shelf.Ren := ⟨fun | 318 => 235 | n => n, fun | 3 => 3 | 4 => 4 | n => n, fun | n => n⟩
theorem Tryz.lays318 : Go.Proofs.Lays.n318 Tryz.prog Tryz.lays318_ren := {
  mixed := by kernel_rfl
  f318 := Tryz.func235.trans (congrArg some (by kernel_rfl))
  t3 := Tryz.underlying3
  a3 := Tryz.isAgg3
  z3 := Tryz.sizeOf3
  v3 := Tryz.zeroValue3
  t4 := Tryz.underlying4
  a4 := Tryz.isAgg4
  z4 := Tryz.sizeOf4
  v4 := Tryz.zeroValue4 }
open Go.Lib in
theorem Tryz.internal_strconv_bool2_int (b : Bool) (w : World) :
    Calls Tryz.prog 235 #[.bool b] w fun e w' => e = .returned (.int .i64 (if b then 1 else 0)) ∧ w' = w := Any.internal_strconv_bool2_int Tryz.lays318 b w
def Tryz.lays283_ren : Go.Shelf.Ren := ⟨fun | 283 => 227 | n => n, fun | 3 => 3 | 9 => 9 | 4 => 4 | n => n, fun | n => n⟩
theorem Tryz.lays283 : Go.Proofs.Lays.n283 Tryz.prog Tryz.lays283_ren := {
  mixed := by kernel_rfl
  f283 := Tryz.func227.trans (congrArg some (by kernel_rfl))
  t3 := Tryz.underlying3
  a3 := Tryz.isAgg3
  z3 := Tryz.sizeOf3
  v3 := Tryz.zeroValue3
  t4 := Tryz.underlying4
  a4 := Tryz.isAgg4
  z4 := Tryz.sizeOf4
  v4 := Tryz.zeroValue4
  t9 := Tryz.underlying9
  a9 := Tryz.isAgg9
  z9 := Tryz.sizeOf9
  v9 := Tryz.zeroValue9 }
open Go.Lib in
theorem Tryz.internal_strconv_small (i : Nat) (h : i < 100) (w : World) :
    Calls Tryz.prog 227 #[.int .i64 i] w fun e w' => e = .returned (.string ⟨(Lib.decDigits i).toArray⟩) ∧ w' = w := Any.internal_strconv_small Tryz.lays283 i h w
def Tryz.laysM284_ren : Go.Shelf.Ren := ⟨fun | 284 => 228 | 129 => 195 | 317 => 234 | 318 => 235 | n => n, fun | 53 => 210 | 3 => 3 | 212 => 304 | 0 => 0 | 4 => 4 | 46 => 169 | 5 => 5 | 9 => 9 | n => n, fun | 17 => 20 | n => n⟩
theorem Tryz.laysM284 : Go.Proofs.LaysM.n284 Tryz.prog Tryz.laysM284_ren := {
  mixed := by kernel_rfl
  f129 := Tryz.func195.trans (congrArg some (by kernel_rfl))
  f284 := Tryz.func228.trans (congrArg some (by kernel_rfl))
  f317 := Tryz.func234.trans (congrArg some (by kernel_rfl))
  f318 := Tryz.func235.trans (congrArg some (by kernel_rfl))
  t0 := Tryz.underlying0
  a0 := Tryz.isAgg0
  z0 := Tryz.sizeOf0
  v0 := Tryz.zeroValue0
  t3 := Tryz.underlying3
  a3 := Tryz.isAgg3
  z3 := Tryz.sizeOf3
  v3 := Tryz.zeroValue3
  t4 := Tryz.underlying4
  a4 := Tryz.isAgg4
  z4 := Tryz.sizeOf4
  v4 := Tryz.zeroValue4
  t5 := Tryz.underlying5
  a5 := Tryz.isAgg5
  z5 := Tryz.sizeOf5
  v5 := Tryz.zeroValue5
  t9 := Tryz.underlying9
  a9 := Tryz.isAgg9
  z9 := Tryz.sizeOf9
  v9 := Tryz.zeroValue9
  t46 := Tryz.underlying169
  a46 := Tryz.isAgg169
  z46 := Tryz.sizeOf169
  v46 := Tryz.zeroValue169
  t53 := Tryz.underlying210
  a53 := Tryz.isAgg210
  z53 := Tryz.sizeOf210
  v53 := Tryz.zeroValue210
  t212 := Tryz.underlying304
  a212 := Tryz.isAgg304
  z212 := Tryz.sizeOf304
  v212 := Tryz.zeroValue304
  g17 := by kernel_rfl
  i0 := by kernel_rfl
  i3 := by kernel_rfl
  i4 := by kernel_rfl
  i5 := by kernel_rfl
  i9 := by kernel_rfl
  i46 := by kernel_rfl
  i53 := by kernel_rfl
  i212 := by kernel_rfl
  m17 := by kernel_rfl }
open Go.Lib in
theorem Tryz.internal_strconv_numDigits (u : Nat) (h1 : 1 ≤ u) (h2 : u < 18446744073709551616) (w : World) (htab : Lib.TabIs Tryz.prog w "internal/strconv.uint64pow10" .u64 Lib.pow10Tab) :
    Calls Tryz.prog 228 #[.int .u64 u] w fun e w' => e = .returned (.int .i64 (Lib.nDigits u)) ∧ w' = w := Any.internal_strconv_numDigits Tryz.laysM284 u h1 h2 w htab
def Tryz.lays285_ren : Go.Shelf.Ren := ⟨fun | 285 => 229 | n => n, fun | 37 => 195 | 53 => 210 | 3 => 3 | 4 => 4 | 51 => 207 | 9 => 9 | 5 => 5 | 0 => 0 | n => n, fun | n => n⟩
theorem Tryz.lays285 : Go.Proofs.Lays.n285 Tryz.prog Tryz.lays285_ren := {
  mixed := by kernel_rfl
  f285 := Tryz.func229.trans (congrArg some (by kernel_rfl))
  t0 := Tryz.underlying0
  a0 := Tryz.isAgg0
  z0 := Tryz.sizeOf0
  v0 := Tryz.zeroValue0
  t3 := Tryz.underlying3
  a3 := Tryz.isAgg3
  z3 := Tryz.sizeOf3
  v3 := Tryz.zeroValue3
  t4 := Tryz.underlying4
  a4 := Tryz.isAgg4
  z4 := Tryz.sizeOf4
  v4 := Tryz.zeroValue4
  t5 := Tryz.underlying5
  a5 := Tryz.isAgg5
  z5 := Tryz.sizeOf5
  v5 := Tryz.zeroValue5
  t9 := Tryz.underlying9
  a9 := Tryz.isAgg9
  z9 := Tryz.sizeOf9
  v9 := Tryz.zeroValue9
  t37 := Tryz.underlying195
  a37 := Tryz.isAgg195
  z37 := Tryz.sizeOf195
  v37 := Tryz.zeroValue195
  t51 := Tryz.underlying207
  a51 := Tryz.isAgg207
  z51 := Tryz.sizeOf207
  v51 := Tryz.zeroValue207
  t53 := Tryz.underlying210
  a53 := Tryz.isAgg210
  z53 := Tryz.sizeOf210
  v53 := Tryz.zeroValue210 }
open Go.RowKit Go.Sort Go.Lib in
theorem Tryz.internal_strconv_formatBase10 (blk off cap : Nat) (u : Nat) (d : Array UInt8) (w : World) (hH : Holds (fun (b : UInt8) => Value.int .u8 (b.toNat : Int)) w blk off d) (hu : u < 10 ^ d.size) (hu64 : u < 18446744073709551616) (hsz : d.size < 4611686018427387904) :
    Calls Tryz.prog 229 #[.slice (some ⟨blk, off, none⟩) d.size cap, .int .u64 u] w fun e w' =>
      e = .returned (.tuple #[]) ∧ ∃ (n v' : Nat) (dk : Array UInt8), w' = (putRow (fun (b : UInt8) => Value.int .u8 (b.toNat : Int)) w blk off dk).drewN n ∧ FmtInv d.size u 0 v' dk := Any.internal_strconv_formatBase10 Tryz.lays285 blk off cap u d w hH hu hu64 hsz
def Tryz.lays189_ren : Go.Shelf.Ren := ⟨fun | 189 => 167 | 125 => 161 | 257 => 197 | 128 => 194 | 129 => 195 | 294 => 209 | 295 => 210 | 296 => 211 | 297 => 212 | 298 => 213 | 299 => 214 | 216 => 215 | 300 => 216 | 301 => 217 | 328 => 224 | 329 => 205 | 330 => 206 | 331 => 225 | 332 => 226 | 215 => 196 | 343 => 233 | n => n, fun | 28 => 57 | 3 => 3 | 46 => 169 | 0 => 0 | 51 => 207 | 53 => 210 | 4 => 4 | 183 => 256 | 182 => 255 | 131 => 175 | 5 => 5 | 9 => 9 | 218 => 267 | 222 => 266 | 228 => 288 | 229 => 223 | n => n, fun | n => n⟩
theorem Tryz.lays189 : Go.Proofs.Lays.n189 Tryz.prog Tryz.lays189_ren := {
  mixed := by kernel_rfl
  f125 := Tryz.func161.trans (congrArg some (by kernel_rfl))
  f128 := Tryz.func194.trans (congrArg some (by kernel_rfl))
  f129 := Tryz.func195.trans (congrArg some (by kernel_rfl))
  f189 := Tryz.func167.trans (congrArg some (by kernel_rfl))
  f215 := Tryz.func196.trans (congrArg some (by kernel_rfl))
  f216 := Tryz.func215.trans (congrArg some (by kernel_rfl))
  f257 := Tryz.func197.trans (congrArg some (by kernel_rfl))
  f294 := Tryz.func209.trans (congrArg some (by kernel_rfl))
  f295 := Tryz.func210.trans (congrArg some (by kernel_rfl))
  f296 := Tryz.func211.trans (congrArg some (by kernel_rfl))
  f297 := Tryz.func212.trans (congrArg some (by kernel_rfl))
  f298 := Tryz.func213.trans (congrArg some (by kernel_rfl))
  f299 := Tryz.func214.trans (congrArg some (by kernel_rfl))
  f300 := Tryz.func216.trans (congrArg some (by kernel_rfl))
  f301 := Tryz.func217.trans (congrArg some (by kernel_rfl))
  f328 := Tryz.func224.trans (congrArg some (by kernel_rfl))
  f329 := Tryz.func205.trans (congrArg some (by kernel_rfl))
  f330 := Tryz.func206.trans (congrArg some (by kernel_rfl))
  f331 := Tryz.func225.trans (congrArg some (by kernel_rfl))
  f332 := Tryz.func226.trans (congrArg some (by kernel_rfl))
  f343 := Tryz.func233.trans (congrArg some (by kernel_rfl))
  t0 := Tryz.underlying0
  a0 := Tryz.isAgg0
  z0 := Tryz.sizeOf0
  v0 := Tryz.zeroValue0
  t3 := Tryz.underlying3
  a3 := Tryz.isAgg3
  z3 := Tryz.sizeOf3
  v3 := Tryz.zeroValue3
  t4 := Tryz.underlying4
  a4 := Tryz.isAgg4
  z4 := Tryz.sizeOf4
  v4 := Tryz.zeroValue4
  t5 := Tryz.underlying5
  a5 := Tryz.isAgg5
  z5 := Tryz.sizeOf5
  v5 := Tryz.zeroValue5
  t9 := Tryz.underlying9
  a9 := Tryz.isAgg9
  z9 := Tryz.sizeOf9
  v9 := Tryz.zeroValue9
  t28 := Tryz.underlying57
  a28 := Tryz.isAgg57
  z28 := Tryz.sizeOf57
  v28 := Tryz.zeroValue57
  t46 := Tryz.underlying169
  a46 := Tryz.isAgg169
  z46 := Tryz.sizeOf169
  v46 := Tryz.zeroValue169
  t51 := Tryz.underlying207
  a51 := Tryz.isAgg207
  z51 := Tryz.sizeOf207
  v51 := Tryz.zeroValue207
  t53 := Tryz.underlying210
  a53 := Tryz.isAgg210
  z53 := Tryz.sizeOf210
  v53 := Tryz.zeroValue210
  t131 := Tryz.underlying175
  a131 := Tryz.isAgg175
  z131 := Tryz.sizeOf175
  v131 := Tryz.zeroValue175
  t182 := Tryz.underlying255
  a182 := Tryz.isAgg255
  z182 := Tryz.sizeOf255
  v182 := Tryz.zeroValue255
  t183 := Tryz.underlying256
  a183 := Tryz.isAgg256
  z183 := Tryz.sizeOf256
  v183 := Tryz.zeroValue256
  t218 := Tryz.underlying267
  a218 := Tryz.isAgg267
  z218 := Tryz.sizeOf267
  v218 := Tryz.zeroValue267
  t222 := Tryz.underlying266
  a222 := Tryz.isAgg266
  z222 := Tryz.sizeOf266
  v222 := Tryz.zeroValue266
  t228 := Tryz.underlying288
  a228 := Tryz.isAgg288
  z228 := Tryz.sizeOf288
  v228 := Tryz.zeroValue288
  t229 := Tryz.underlying223
  a229 := Tryz.isAgg223
  z229 := Tryz.sizeOf223
  v229 := Tryz.zeroValue223 }
open Go.Sort Go.RowKit in
theorem Tryz.slices_Sort_int (blk off cap : Nat) (zs : List Int) (w : World) (hH : Holds (Value.int .i64) w blk off zs.toArray) (hblk : blk < w.heap.size) (hsz : zs.length < 4611686018427387904) :
    Calls Tryz.prog 167 #[.slice (some ⟨blk, off, none⟩) zs.length cap] w fun e w' =>
      e = .returned (.tuple #[]) ∧ ∃ n os, w' = grow (putRow (Value.int .i64) (Sort.ahead w n) blk off (zs.mergeSort fun x y => decide (x ≤ y)).toArray) os := Any.slices_Sort_int Tryz.lays189 blk off cap zs w hH hblk hsz
def Tryz.laysM288_ren : Go.Shelf.Ren := ⟨fun | 288 => 218 | 283 => 227 | 284 => 228 | 285 => 229 | 286 => 230 | 129 => 195 | 317 => 234 | 318 => 235 | 319 => 236 | 320 => 237 | 337 => 238 | 338 => 239 | n => n, fun | 37 => 195 | 53 => 210 | 3 => 3 | 4 => 4 | 9 => 9 | 171 => 293 | 0 => 0 | 173 => 295 | 212 => 304 | 51 => 207 | 5 => 5 | 20 => 20 | 213 => 305 | 46 => 169 | 232 => 306 | 233 => 307 | n => n, fun | 17 => 20 | 18 => 21 | 19 => 22 | n => n⟩
theorem Tryz.laysM288 : Go.Proofs.LaysM.n288 Tryz.prog Tryz.laysM288_ren := {
  mixed := by kernel_rfl
  f129 := Tryz.func195.trans (congrArg some (by kernel_rfl))
  f283 := Tryz.func227.trans (congrArg some (by kernel_rfl))
  f284 := Tryz.func228.trans (congrArg some (by kernel_rfl))
  f285 := Tryz.func229.trans (congrArg some (by kernel_rfl))
  f286 := Tryz.func230.trans (congrArg some (by kernel_rfl))
  f288 := Tryz.func218.trans (congrArg some (by kernel_rfl))
  f317 := Tryz.func234.trans (congrArg some (by kernel_rfl))
  f318 := Tryz.func235.trans (congrArg some (by kernel_rfl))
  f319 := Tryz.func236.trans (congrArg some (by kernel_rfl))
  f320 := Tryz.func237.trans (congrArg some (by kernel_rfl))
  f337 := Tryz.func238.trans (congrArg some (by kernel_rfl))
  f338 := Tryz.func239.trans (congrArg some (by kernel_rfl))
  t0 := Tryz.underlying0
  a0 := Tryz.isAgg0
  z0 := Tryz.sizeOf0
  v0 := Tryz.zeroValue0
  t3 := Tryz.underlying3
  a3 := Tryz.isAgg3
  z3 := Tryz.sizeOf3
  v3 := Tryz.zeroValue3
  t4 := Tryz.underlying4
  a4 := Tryz.isAgg4
  z4 := Tryz.sizeOf4
  v4 := Tryz.zeroValue4
  t5 := Tryz.underlying5
  a5 := Tryz.isAgg5
  z5 := Tryz.sizeOf5
  v5 := Tryz.zeroValue5
  t9 := Tryz.underlying9
  a9 := Tryz.isAgg9
  z9 := Tryz.sizeOf9
  v9 := Tryz.zeroValue9
  t20 := Tryz.underlying20
  a20 := Tryz.isAgg20
  z20 := Tryz.sizeOf20
  v20 := Tryz.zeroValue20
  t37 := Tryz.underlying195
  a37 := Tryz.isAgg195
  z37 := Tryz.sizeOf195
  v37 := Tryz.zeroValue195
  t46 := Tryz.underlying169
  a46 := Tryz.isAgg169
  z46 := Tryz.sizeOf169
  v46 := Tryz.zeroValue169
  t51 := Tryz.underlying207
  a51 := Tryz.isAgg207
  z51 := Tryz.sizeOf207
  v51 := Tryz.zeroValue207
  t53 := Tryz.underlying210
  a53 := Tryz.isAgg210
  z53 := Tryz.sizeOf210
  v53 := Tryz.zeroValue210
  t171 := Tryz.underlying293
  a171 := Tryz.isAgg293
  z171 := Tryz.sizeOf293
  v171 := Tryz.zeroValue293
  t173 := Tryz.underlying295
  a173 := Tryz.isAgg295
  z173 := Tryz.sizeOf295
  v173 := Tryz.zeroValue295
  t212 := Tryz.underlying304
  a212 := Tryz.isAgg304
  z212 := Tryz.sizeOf304
  v212 := Tryz.zeroValue304
  t213 := Tryz.underlying305
  a213 := Tryz.isAgg305
  z213 := Tryz.sizeOf305
  t232 := Tryz.underlying306
  a232 := Tryz.isAgg306
  z232 := Tryz.sizeOf306
  v232 := Tryz.zeroValue306
  t233 := Tryz.underlying307
  a233 := Tryz.isAgg307
  z233 := Tryz.sizeOf307
  v233 := Tryz.zeroValue307
  g17 := by kernel_rfl
  g18 := by kernel_rfl
  g19 := by kernel_rfl
  i0 := by kernel_rfl
  i3 := by kernel_rfl
  i4 := by kernel_rfl
  i5 := by kernel_rfl
  i9 := by kernel_rfl
  i20 := by kernel_rfl
  i37 := by kernel_rfl
  i46 := by kernel_rfl
  i51 := by kernel_rfl
  i53 := by kernel_rfl
  i171 := by kernel_rfl
  i173 := by kernel_rfl
  i212 := by kernel_rfl
  i232 := by kernel_rfl
  i233 := by kernel_rfl
  m17 := by kernel_rfl
  m18 := by kernel_rfl
  m19 := by kernel_rfl }
open Go.RowKit Go.Sort Go.Lib in
theorem Tryz.internal_strconv_AppendUint_10_small (B n u : Nat) (hu : u < 100) (sv : Value) (xs : List Value) (w : World) (hown : w.ownsRow B 5 1 sv n xs) (hBw : B ≤ w.heap.size) (hlim : n + 20 ≤ 140737488355328) :
    Calls Tryz.prog 218 #[sv, .int .u64 u, .int .i64 10] w fun e w' => ∃ v', e = .returned v' ∧ w'.ownsRow B 5 1 v' (n + (Lib.decDigits u).length) (xs ++ Lib.byteCells (Lib.decDigits u)) ∧ Below B w w' ∧ Lib.OthersKept 5 none w w' := Any.internal_strconv_AppendUint_10_small Tryz.laysM288 B n u hu sv xs w hown hBw hlim
open Go.RowKit Go.Sort Go.Lib in
theorem Tryz.internal_strconv_AppendUint_10_big (B n u : Nat) (hu : 100 ≤ u) (hu64 : u < 18446744073709551616) (sv : Value) (xs : List Value) (w : World) (hown : w.ownsRow B 5 1 sv n xs) (hBw : B ≤ w.heap.size) (hlim : n + 20 ≤ 140737488355328) (htab : Lib.TabIs Tryz.prog w "internal/strconv.uint64pow10" .u64 Lib.pow10Tab) :
    Calls Tryz.prog 218 #[sv, .int .u64 u, .int .i64 10] w fun e w' => ∃ v', e = .returned v' ∧ w'.ownsRow B 5 1 v' (n + (Lib.decDigits u).length) (xs ++ Lib.byteCells (Lib.decDigits u)) ∧ Below B w w' ∧ Lib.OthersKept 5 none w w' := Any.internal_strconv_AppendUint_10_big Tryz.laysM288 B n u hu hu64 sv xs w hown hBw hlim htab
open Go.RowKit Go.Sort Go.Lib in
theorem Tryz.internal_strconv_AppendUint_10 (B n u : Nat) (hu64 : u < 18446744073709551616) (sv : Value) (xs : List Value) (w : World) (hown : w.ownsRow B 5 1 sv n xs) (hBw : B ≤ w.heap.size) (hlim : n + 20 ≤ 140737488355328) (htab : Lib.TabIs Tryz.prog w "internal/strconv.uint64pow10" .u64 Lib.pow10Tab) :
    Calls Tryz.prog 218 #[sv, .int .u64 u, .int .i64 10] w fun e w' => ∃ v', e = .returned v' ∧ w'.ownsRow B 5 1 v' (n + (Lib.decDigits u).length) (xs ++ Lib.byteCells (Lib.decDigits u)) ∧ Below B w w' ∧ Lib.OthersKept 5 none w w' := Any.internal_strconv_AppendUint_10 Tryz.laysM288 B n u hu64 sv xs w hown hBw hlim htab
def Tryz.laysM249_ren : Go.Shelf.Ren := ⟨fun | 249 => 198 | 288 => 218 | 283 => 227 | 284 => 228 | 285 => 229 | 286 => 230 | 129 => 195 | 317 => 234 | 318 => 235 | 319 => 236 | 320 => 237 | 337 => 238 | 338 => 239 | n => n, fun | 37 => 195 | 2 => 2 | 3 => 3 | 53 => 210 | 4 => 4 | 9 => 9 | 171 => 293 | 0 => 0 | 173 => 295 | 212 => 304 | 51 => 207 | 5 => 5 | 20 => 20 | 213 => 305 | 46 => 169 | 232 => 306 | 233 => 307 | n => n, fun | 17 => 20 | 18 => 21 | 19 => 22 | n => n⟩
theorem Tryz.laysM249 : Go.Proofs.LaysM.n249 Tryz.prog Tryz.laysM249_ren := {
  mixed := by kernel_rfl
  f129 := Tryz.func195.trans (congrArg some (by kernel_rfl))
  f249 := Tryz.func198.trans (congrArg some (by kernel_rfl))
  f283 := Tryz.func227.trans (congrArg some (by kernel_rfl))
  f284 := Tryz.func228.trans (congrArg some (by kernel_rfl))
  f285 := Tryz.func229.trans (congrArg some (by kernel_rfl))
  f286 := Tryz.func230.trans (congrArg some (by kernel_rfl))
  f288 := Tryz.func218.trans (congrArg some (by kernel_rfl))
  f317 := Tryz.func234.trans (congrArg some (by kernel_rfl))
  f318 := Tryz.func235.trans (congrArg some (by kernel_rfl))
  f319 := Tryz.func236.trans (congrArg some (by kernel_rfl))
  f320 := Tryz.func237.trans (congrArg some (by kernel_rfl))
  f337 := Tryz.func238.trans (congrArg some (by kernel_rfl))
  f338 := Tryz.func239.trans (congrArg some (by kernel_rfl))
  t0 := Tryz.underlying0
  a0 := Tryz.isAgg0
  z0 := Tryz.sizeOf0
  v0 := Tryz.zeroValue0
  t2 := Tryz.underlying2
  a2 := Tryz.isAgg2
  z2 := Tryz.sizeOf2
  v2 := Tryz.zeroValue2
  t3 := Tryz.underlying3
  a3 := Tryz.isAgg3
  z3 := Tryz.sizeOf3
  v3 := Tryz.zeroValue3
  t4 := Tryz.underlying4
  a4 := Tryz.isAgg4
  z4 := Tryz.sizeOf4
  v4 := Tryz.zeroValue4
  t5 := Tryz.underlying5
  a5 := Tryz.isAgg5
  z5 := Tryz.sizeOf5
  v5 := Tryz.zeroValue5
  t9 := Tryz.underlying9
  a9 := Tryz.isAgg9
  z9 := Tryz.sizeOf9
  v9 := Tryz.zeroValue9
  t20 := Tryz.underlying20
  a20 := Tryz.isAgg20
  z20 := Tryz.sizeOf20
  v20 := Tryz.zeroValue20
  t37 := Tryz.underlying195
  a37 := Tryz.isAgg195
  z37 := Tryz.sizeOf195
  v37 := Tryz.zeroValue195
  t46 := Tryz.underlying169
  a46 := Tryz.isAgg169
  z46 := Tryz.sizeOf169
  v46 := Tryz.zeroValue169
  t51 := Tryz.underlying207
  a51 := Tryz.isAgg207
  z51 := Tryz.sizeOf207
  v51 := Tryz.zeroValue207
  t53 := Tryz.underlying210
  a53 := Tryz.isAgg210
  z53 := Tryz.sizeOf210
  v53 := Tryz.zeroValue210
  t171 := Tryz.underlying293
  a171 := Tryz.isAgg293
  z171 := Tryz.sizeOf293
  v171 := Tryz.zeroValue293
  t173 := Tryz.underlying295
  a173 := Tryz.isAgg295
  z173 := Tryz.sizeOf295
  v173 := Tryz.zeroValue295
  t212 := Tryz.underlying304
  a212 := Tryz.isAgg304
  z212 := Tryz.sizeOf304
  v212 := Tryz.zeroValue304
  t213 := Tryz.underlying305
  a213 := Tryz.isAgg305
  z213 := Tryz.sizeOf305
  t232 := Tryz.underlying306
  a232 := Tryz.isAgg306
  z232 := Tryz.sizeOf306
  v232 := Tryz.zeroValue306
  t233 := Tryz.underlying307
  a233 := Tryz.isAgg307
  z233 := Tryz.sizeOf307
  v233 := Tryz.zeroValue307
  g17 := by kernel_rfl
  g18 := by kernel_rfl
  g19 := by kernel_rfl
  i0 := by kernel_rfl
  i2 := by kernel_rfl
  i3 := by kernel_rfl
  i4 := by kernel_rfl
  i5 := by kernel_rfl
  i9 := by kernel_rfl
  i20 := by kernel_rfl
  i37 := by kernel_rfl
  i46 := by kernel_rfl
  i51 := by kernel_rfl
  i53 := by kernel_rfl
  i171 := by kernel_rfl
  i173 := by kernel_rfl
  i212 := by kernel_rfl
  i232 := by kernel_rfl
  i233 := by kernel_rfl
  m17 := by kernel_rfl
  m18 := by kernel_rfl
  m19 := by kernel_rfl }
open Go.RowKit Go.Sort Go.Lib in
theorem Tryz.internal_strconv_AppendInt_10 (B n : Nat) (i : Int) (h0 : -9223372036854775808 ≤ i) (h1 : i ≤ 9223372036854775807) (sv : Value) (xs : List Value) (w : World) (hown : w.ownsRow B 5 1 sv n xs) (hBw : B ≤ w.heap.size) (hlim : n + 21 ≤ 140737488355328) (htab : Lib.TabBelow Tryz.prog B w "internal/strconv.uint64pow10" .u64 Lib.pow10Tab) :
    Calls Tryz.prog 198 #[sv, .int .i64 i, .int .i64 10] w fun e w' => ∃ v', e = .returned v' ∧ w'.ownsRow B 5 1 v' (n + (Lib.itoa i).length) (xs ++ Lib.byteCells (Lib.itoa i)) ∧ Below B w w' ∧ Lib.OthersKept 5 none w w' := Any.internal_strconv_AppendInt_10 Tryz.laysM249 B n i h0 h1 sv xs w hown hBw hlim htab
def Tryz.laysM176_ren : Go.Shelf.Ren := ⟨fun | 176 => 168 | 249 => 198 | 288 => 218 | 283 => 227 | 284 => 228 | 285 => 229 | 286 => 230 | 129 => 195 | 317 => 234 | 318 => 235 | 319 => 236 | 320 => 237 | 337 => 238 | 338 => 239 | n => n, fun | 37 => 195 | 2 => 2 | 3 => 3 | 53 => 210 | 4 => 4 | 9 => 9 | 171 => 293 | 0 => 0 | 173 => 295 | 212 => 304 | 51 => 207 | 5 => 5 | 20 => 20 | 213 => 305 | 46 => 169 | 232 => 306 | 233 => 307 | n => n, fun | 17 => 20 | 18 => 21 | 19 => 22 | n => n⟩
theorem Tryz.laysM176 : Go.Proofs.LaysM.n176 Tryz.prog Tryz.laysM176_ren := {
  mixed := by kernel_rfl
  f129 := Tryz.func195.trans (congrArg some (by kernel_rfl))
  f176 := Tryz.func168.trans (congrArg some (by kernel_rfl))
  f249 := Tryz.func198.trans (congrArg some (by kernel_rfl))
  f283 := Tryz.func227.trans (congrArg some (by kernel_rfl))
  f284 := Tryz.func228.trans (congrArg some (by kernel_rfl))
  f285 := Tryz.func229.trans (congrArg some (by kernel_rfl))
  f286 := Tryz.func230.trans (congrArg some (by kernel_rfl))
  f288 := Tryz.func218.trans (congrArg some (by kernel_rfl))
  f317 := Tryz.func234.trans (congrArg some (by kernel_rfl))
  f318 := Tryz.func235.trans (congrArg some (by kernel_rfl))
  f319 := Tryz.func236.trans (congrArg some (by kernel_rfl))
  f320 := Tryz.func237.trans (congrArg some (by kernel_rfl))
  f337 := Tryz.func238.trans (congrArg some (by kernel_rfl))
  f338 := Tryz.func239.trans (congrArg some (by kernel_rfl))
  t0 := Tryz.underlying0
  a0 := Tryz.isAgg0
  z0 := Tryz.sizeOf0
  v0 := Tryz.zeroValue0
  t2 := Tryz.underlying2
  a2 := Tryz.isAgg2
  z2 := Tryz.sizeOf2
  v2 := Tryz.zeroValue2
  t3 := Tryz.underlying3
  a3 := Tryz.isAgg3
  z3 := Tryz.sizeOf3
  v3 := Tryz.zeroValue3
  t4 := Tryz.underlying4
  a4 := Tryz.isAgg4
  z4 := Tryz.sizeOf4
  v4 := Tryz.zeroValue4
  t5 := Tryz.underlying5
  a5 := Tryz.isAgg5
  z5 := Tryz.sizeOf5
  v5 := Tryz.zeroValue5
  t9 := Tryz.underlying9
  a9 := Tryz.isAgg9
  z9 := Tryz.sizeOf9
  v9 := Tryz.zeroValue9
  t20 := Tryz.underlying20
  a20 := Tryz.isAgg20
  z20 := Tryz.sizeOf20
  v20 := Tryz.zeroValue20
  t37 := Tryz.underlying195
  a37 := Tryz.isAgg195
  z37 := Tryz.sizeOf195
  v37 := Tryz.zeroValue195
  t46 := Tryz.underlying169
  a46 := Tryz.isAgg169
  z46 := Tryz.sizeOf169
  v46 := Tryz.zeroValue169
  t51 := Tryz.underlying207
  a51 := Tryz.isAgg207
  z51 := Tryz.sizeOf207
  v51 := Tryz.zeroValue207
  t53 := Tryz.underlying210
  a53 := Tryz.isAgg210
  z53 := Tryz.sizeOf210
  v53 := Tryz.zeroValue210
  t171 := Tryz.underlying293
  a171 := Tryz.isAgg293
  z171 := Tryz.sizeOf293
  v171 := Tryz.zeroValue293
  t173 := Tryz.underlying295
  a173 := Tryz.isAgg295
  z173 := Tryz.sizeOf295
  v173 := Tryz.zeroValue295
  t212 := Tryz.underlying304
  a212 := Tryz.isAgg304
  z212 := Tryz.sizeOf304
  v212 := Tryz.zeroValue304
  t213 := Tryz.underlying305
  a213 := Tryz.isAgg305
  z213 := Tryz.sizeOf305
  t232 := Tryz.underlying306
  a232 := Tryz.isAgg306
  z232 := Tryz.sizeOf306
  v232 := Tryz.zeroValue306
  t233 := Tryz.underlying307
  a233 := Tryz.isAgg307
  z233 := Tryz.sizeOf307
  v233 := Tryz.zeroValue307
  g17 := by kernel_rfl
  g18 := by kernel_rfl
  g19 := by kernel_rfl
  i0 := by kernel_rfl
  i2 := by kernel_rfl
  i3 := by kernel_rfl
  i4 := by kernel_rfl
  i5 := by kernel_rfl
  i9 := by kernel_rfl
  i20 := by kernel_rfl
  i37 := by kernel_rfl
  i46 := by kernel_rfl
  i51 := by kernel_rfl
  i53 := by kernel_rfl
  i171 := by kernel_rfl
  i173 := by kernel_rfl
  i212 := by kernel_rfl
  i232 := by kernel_rfl
  i233 := by kernel_rfl
  m17 := by kernel_rfl
  m18 := by kernel_rfl
  m19 := by kernel_rfl }
open Go.RowKit Go.Sort Go.Lib in
theorem Tryz.strconv_AppendInt_10 (B n : Nat) (i : Int) (h0 : -9223372036854775808 ≤ i) (h1 : i ≤ 9223372036854775807) (sv : Value) (xs : List Value) (w : World) (hown : w.ownsRow B 5 1 sv n xs) (hBw : B ≤ w.heap.size) (hlim : n + 21 ≤ 140737488355328) (htab : Lib.TabBelow Tryz.prog B w "internal/strconv.uint64pow10" .u64 Lib.pow10Tab) :
    Calls Tryz.prog 168 #[sv, .int .i64 i, .int .i64 10] w fun e w' => ∃ v', e = .returned v' ∧ w'.ownsRow B 5 1 v' (n + (Lib.itoa i).length) (xs ++ Lib.byteCells (Lib.itoa i)) ∧ Below B w w' ∧ Lib.OthersKept 5 none w w' := Any.strconv_AppendInt_10 Tryz.laysM176 B n i h0 h1 sv xs w hown hBw hlim htab
def Tryz.lays264_ren : Go.Shelf.Ren := ⟨fun | 264 => 147 | n => n, fun | 53 => 210 | 46 => 169 | n => n, fun | n => n⟩
theorem Tryz.lays264 : Go.Proofs.Lays.n264 Tryz.prog Tryz.lays264_ren := {
  mixed := by kernel_rfl
  f264 := Tryz.func147.trans (congrArg some (by kernel_rfl))
  t46 := Tryz.underlying169
  a46 := Tryz.isAgg169
  z46 := Tryz.sizeOf169
  v46 := Tryz.zeroValue169
  t53 := Tryz.underlying210
  a53 := Tryz.isAgg210
  z53 := Tryz.sizeOf210
  v53 := Tryz.zeroValue210 }
open Go.RowKit Go.Lib in
theorem Tryz.bits_Mul64 (x y : Nat) (hx : x < 18446744073709551616) (hy : y < 18446744073709551616) (w : World) :
    Calls Tryz.prog 147 #[.int .u64 x, .int .u64 y] w fun e w' => e = .returned (.tuple #[.int .u64 ((x * y / 18446744073709551616 : Nat) : Int), .int .u64 ((x * y % 18446744073709551616 : Nat) : Int)]) ∧ w' = w := Any.bits_Mul64 Tryz.lays264 x y hx hy w
def Tryz.lays212_ren : Go.Shelf.Ren := ⟨fun | 212 => 129 | 263 => 146 | 264 => 147 | n => n, fun | 46 => 169 | 51 => 207 | 146 => 208 | 53 => 210 | 148 => 211 | n => n, fun | n => n⟩
theorem Tryz.lays212 : Go.Proofs.Lays.n212 Tryz.prog Tryz.lays212_ren := {
  mixed := by kernel_rfl
  f212 := Tryz.func129.trans (congrArg some (by kernel_rfl))
  f263 := Tryz.func146.trans (congrArg some (by kernel_rfl))
  f264 := Tryz.func147.trans (congrArg some (by kernel_rfl))
  t46 := Tryz.underlying169
  a46 := Tryz.isAgg169
  z46 := Tryz.sizeOf169
  v46 := Tryz.zeroValue169
  t51 := Tryz.underlying207
  a51 := Tryz.isAgg207
  z51 := Tryz.sizeOf207
  v51 := Tryz.zeroValue207
  t53 := Tryz.underlying210
  a53 := Tryz.isAgg210
  z53 := Tryz.sizeOf210
  v53 := Tryz.zeroValue210
  t146 := Tryz.underlying208
  a146 := Tryz.isAgg208
  z146 := Tryz.sizeOf208
  v146 := Tryz.zeroValue208
  t148 := Tryz.underlying211
  a148 := Tryz.isAgg211
  z148 := Tryz.sizeOf211
  v148 := Tryz.zeroValue211 }
open Go.RowKit Go.Lib in
theorem Tryz.bits_Mul (x y : Nat) (hx : x < 18446744073709551616) (hy : y < 18446744073709551616) (w : World) :
    Calls Tryz.prog 129 #[.int .u64 x, .int .u64 y] w fun e w' => e = .returned (.tuple #[.int .u64 ((x * y / 18446744073709551616 : Nat) : Int), .int .u64 ((x * y % 18446744073709551616 : Nat) : Int)]) ∧ w' = w := Any.bits_Mul Tryz.lays212 x y hx hy w
def Tryz.laysNm220_ren : Go.Shelf.Ren := ⟨fun | 20 => 169 | n => n, fun | 22 => 57 | 3 => 3 | 4 => 4 | 0 => 0 | n => n, fun | n => n⟩
theorem Tryz.laysNm220 : Go.Proofs.Lays2.n20 Tryz.prog Tryz.laysNm220_ren := {
  mixed := by kernel_rfl
  f20 := Tryz.func169.trans (congrArg some (by kernel_rfl))
  t0 := Tryz.underlying0
  a0 := Tryz.isAgg0
  z0 := Tryz.sizeOf0
  v0 := Tryz.zeroValue0
  t3 := Tryz.underlying3
  a3 := Tryz.isAgg3
  z3 := Tryz.sizeOf3
  v3 := Tryz.zeroValue3
  t4 := Tryz.underlying4
  a4 := Tryz.isAgg4
  z4 := Tryz.sizeOf4
  v4 := Tryz.zeroValue4
  t22 := Tryz.underlying57
  a22 := Tryz.isAgg57
  z22 := Tryz.sizeOf57
  v22 := Tryz.zeroValue57
  i3 := by kernel_rfl }
open Go.RowKit Go.Lib Go.Sort in
theorem Tryz.slices_Compact_int_arr (blk off cap : Nat) (d : Array Int) (w : World) (hH : Holds encI w blk off d) (hsz : d.size ≤ 9223372036854775807) (hcap : d.size ≤ cap) :
    Calls Tryz.prog 169 #[.slice (some ⟨blk, off, none⟩) d.size cap] w fun e w' => e = .returned (.slice (some ⟨blk, off, none⟩) (compactUpTo d d.size).length cap) ∧ ∃ q, w' = putRow encI (Sort.ahead w q) blk off (compactUpTo d d.size ++ List.replicate (d.size - (compactUpTo d d.size).length) 0).toArray := Any.slices_Compact_int_arr Tryz.laysNm220 blk off cap d w hH hsz hcap
open Go.RowKit Go.Lib Go.Sort in
theorem Tryz.slices_Compact_int (blk off cap : Nat) (zs : List Int) (w : World) (hH : Holds (Value.int .i64) w blk off zs.toArray) (hsz : zs.length ≤ 9223372036854775807) (hcap : zs.length ≤ cap) :
    Calls Tryz.prog 169 #[.slice (some ⟨blk, off, none⟩) zs.length cap] w fun e w' => e = .returned (.slice (some ⟨blk, off, none⟩) (Lib.compact zs).length cap) ∧ ∃ q, w' = putRow (Value.int .i64) (Sort.ahead w q) blk off (Lib.compact zs ++ List.replicate (zs.length - (Lib.compact zs).length) 0).toArray := Any.slices_Compact_int Tryz.laysNm220 blk off cap zs w hH hsz hcap
open Go.RowKit Go.Lib Go.Sort in
theorem Tryz.slices_Compact_int_empty (a : Option Addr) (cap : Nat) (w : World) :
    Calls Tryz.prog 169 #[.slice a 0 cap] w fun e w' => e = .returned (.slice a 0 cap) ∧ w' = w := Any.slices_Compact_int_empty Tryz.laysNm220 a cap w
end Go.Proofs
/- slices.Sort of a list of numbers that is the call's own. -/
namespace Go.Proofs.YtnpooilcpapkaaaGreatDoor
open Go.RowKit Go.Maps
/-- slices.Sort of a list of the call's own. -/
theorem sortI_any (w : World) (B g cap : Nat) (zs : List Int) (h : OwnI w B (.slice (some ⟨g, 0, none⟩) zs.length cap) zs) (hn : zs.length ≤ 1000000) :
    Calls Tryz.prog 167 #[.slice (some ⟨g, 0, none⟩) zs.length cap] w fun e w' => e = .returned (.tuple #[]) ∧ OwnI w' B (.slice (some ⟨g, 0, none⟩) zs.length cap) (zs.mergeSort fun x y => decide (x ≤ y)) ∧ w.grownBy w' (some g) := by
  rcases h.2 with ⟨e, _⟩ | ⟨g', cap', cur, e, hg, hb, hc, hm, hs, ht⟩
  · cases e
  injection e with e1 e2 e3
  have e4 := Option.some.inj e1
  injection e4 with e5
  subst e5; subst e3
  rw [Nat.mul_one] at ht
  refine (Tryz.slices_Sort_int g 0 cap zs w (holds_of_blockI hb ht) (t_lt hb) (by omega)).mono ?_
  rintro r w' ⟨rfl, n, os, rfl⟩
  have hl : (zs.mergeSort fun x y => decide (x ≤ y)).length = zs.length := List.length_mergeSort _
  refine ⟨rfl, ?_, grownBy_sortedI _⟩
  have := ownsRow_sortedI (n := n) (os := os) hl hg hb hc hm hs
  unfold OwnI
  rw [hl]
  exact this
theorem sort_perm (zs : List Int) : (zs.mergeSort fun x y => decide (x ≤ y)).Perm zs := List.mergeSort_perm _ _
theorem sort_rise (zs : List Int) : (zs.mergeSort fun x y => decide (x ≤ y)).Pairwise (· ≤ ·) := by
  have h := List.pairwise_mergeSort (le := fun x y : Int => decide (x ≤ y)) (fun a b c h1 h2 => by simp at *; omega) (fun a b => by simp; omega) zs
  exact h.imp fun h => by simpa using h
end Go.Proofs.YtnpooilcpapkaaaGreatDoor
/- Contract of the program's signature: the text of a state's class, and of the labels and classes that its steps lead to. -/
namespace Go.Proofs.YtnpooilcpapkaaaGreatDoor
open Go.RowKit Go.Maps
attribute [local go_sem ↓] Go.wp_at_zero Go.wp_at_succ
/-- The table of strconv's powers of ten lies below. -/
def Pow (w : World) : Prop := Lib.TabBelow Tryz.prog w.heap.size w "internal/strconv.uint64pow10" .u64 Lib.pow10Tab
theorem Pow.below {w w' : World} (h : Pow w) (hb : Below w.heap.size w w') : Pow w' := Lib.tabBelow_of_tabIs (h w' hb)
theorem Pow.from {w w' : World} (h : Pow w) (hb : Below w.heap.size w w') : Lib.TabBelow Tryz.prog w.heap.size w' "internal/strconv.uint64pow10" .u64 Lib.pow10Tab := Lib.TabBelow.on h hb
theorem Tryz.infoU8 : (Tryz.prog.info? 5).map (fun i => (i.zero, i.size, i.bytes)) = some (some (.int .u8 0), 1, 1) := by kernel_rfl
/-- slices.Compact of numbers that are the call's own. -/
theorem compactI_any (w : World) (B g cap : Nat) (zs : List Int) (h : OwnI w B (.slice (some ⟨g, 0, none⟩) zs.length cap) zs) (hs : zs.Pairwise (· ≤ ·)) :
    Calls Tryz.prog 169 #[.slice (some ⟨g, 0, none⟩) zs.length cap] w fun e w' => e = .returned (.slice (some ⟨g, 0, none⟩) (Ro.sd zs).length cap) ∧ (∃ cur, w'.heap[g]? = some (.cells cur 3 (0, 0)) ∧ ∀ (i : Nat) (z : Int), (Ro.sd zs)[i]? = some z → cur[i]? = some (.int .i64 z)) ∧ w.grownBy w' (some g) := by
  rcases h.2 with ⟨e, _⟩ | ⟨g', cap', cur, e, hg, hb, hc, hm, hsz, ht⟩
  · cases e
  injection e with e1 e2 e3
  have e4 := Option.some.inj e1
  injection e4 with e5
  subst e5; subst e3
  rw [Nat.mul_one] at ht hsz
  refine (Tryz.slices_Compact_int g 0 cap zs w (holds_of_blockI hb ht) (by unfold maxLen at hm; omega) (by omega)).mono ?_
  rintro r w' ⟨rfl, q, hw'⟩
  rw [Ro.compact_sd hs] at hw' ⊢
  obtain ⟨d, hd⟩ : ∃ d, d = Ro.sd zs ++ List.replicate (zs.length - (Ro.sd zs).length) 0 := ⟨_, rfl⟩
  rw [← hd] at hw'
  have hdl : d.length ≤ zs.length := by
    have hp : (Ro.sd zs).length ≤ zs.length := by rw [← Ro.compact_sd hs]; unfold Lib.compact Lib.compactUpTo; rw [List.length_map]; exact Nat.le_trans (List.length_filter_le _ _) (by simp)
    rw [hd]; simp; omega
  have hgr : Sort.grow w' #[] = w' := by simp [Sort.grow]
  have h1 := heap_sortedI (n := q) (os := #[]) d.toArray hb
  rw [← hw', hgr] at h1
  have h2 := grownBy_sortedI (w := w) (g := g) (n := q) (os := #[]) d.toArray
  rw [← hw', hgr] at h2
  refine ⟨rfl, ⟨_, h1, fun i z hz => ?_⟩, h2⟩
  have hil := (List.getElem?_eq_some_iff.1 hz).1
  have h3 := take_putCellsI cur d (by omega)
  have hdi : d[i]? = some z := by rw [hd, List.getElem?_append_left hil]; exact hz
  have hid := (List.getElem?_eq_some_iff.1 hdi).1
  have h4 : ((Sort.putCells (Value.int .i64) 0 d.toArray cur).toList.take d.length)[i]? = (d.map (Value.int .i64))[i]? := by rw [h3]
  rw [List.getElem?_take_of_lt hid, List.getElem?_map, hdi, Array.getElem?_toList] at h4
  exact h4
/-- The text being written, and the numbers that it is written of. -/
structure SgAt (w wr : World) (g : Nat) (tv : Value) (txt : List UInt8) (es : List Int) : Prop where
  bl : Below w.heap.size w wr
  gu : w.heap.size ≤ g
  row : ∃ cur, wr.heap[g]? = some (.cells cur 3 (0, 0)) ∧ ∀ (i : Nat) (z : Int), es[i]? = some z → cur[i]? = some (.int .i64 z)
  text : wr.ownsRow w.heap.size 5 1 tv txt.length (Lib.byteCells txt)
theorem SgAt.cell {w wr : World} {g : Nat} {tv : Value} {txt : List UInt8} {es : List Int} (h : SgAt w wr g tv txt es) {i : Nat} {z : Int} (hz : es[i]? = some z) : wr.cell? ⟨g, i, none⟩ = some (.int .i64 z) := by
  obtain ⟨cur, h1, h2⟩ := h.row
  exact cell0_of h1 (h2 i z hz)
theorem SgAt.num {w wr w' : World} {g : Nat} {tv tv' : Value} {txt : List UInt8} {es : List Int} (h : SgAt w wr g tv txt es) (e : Int) (hO : w'.ownsRow w.heap.size 5 1 tv' (txt.length + (Lib.itoa e).length) (Lib.byteCells txt ++ Lib.byteCells (Lib.itoa e))) (hb : Below w.heap.size wr w') (hk : Lib.OthersKept 5 none wr w') : SgAt w w' g tv' (txt ++ Lib.itoa e) es := by
  obtain ⟨cur, h1, h2⟩ := h.row
  refine ⟨h.bl.trans hb, h.gu, ⟨cur, hk g _ h1 (by simp) (fun c fz e9 => by injection e9 with _ e9; exact absurd e9 (by decide)), h2⟩, ?_⟩
  rw [List.length_append, show Lib.byteCells (txt ++ Lib.itoa e) = Lib.byteCells txt ++ Lib.byteCells (Lib.itoa e) by simp [Lib.byteCells]]
  exact hO
theorem SgAt.sp {w wr w' : World} {g : Nat} {tv tv' : Value} {txt : List UInt8} {es : List Int} {o : Obj} (h : SgAt w wr g tv txt es) (hO : w'.ownsRow w.heap.size 5 1 tv' (txt.length + 1) (Lib.byteCells txt ++ [.int .u8 32])) (hg : (wr.alloc o).grownBy w' tv.ownBlock) : SgAt w w' g tv' (txt ++ [32]) es := by
  obtain ⟨cur, h1, h2⟩ := h.row
  have hk := grown_alloc hg
  refine ⟨h.bl.trans (hk.below h.bl.size fun b hb => (h.text.lt b hb).1), h.gu, ⟨cur, (hk.block g (t_lt h1) fun hb => own_bk h.text h1 (by decide) hb).trans h1, h2⟩, ?_⟩
  rw [List.length_append, show Lib.byteCells (txt ++ [32]) = Lib.byteCells txt ++ [.int .u8 32] by simp [Lib.byteCells]]
  exact hO
theorem byte_row {w : World} {B : Nat} {tv : Value} {txt : List UInt8} (h : w.ownsRow B 5 1 tv txt.length (Lib.byteCells txt)) (h0 : 0 < txt.length) : ∃ a cap, tv = .slice (some a) txt.length cap ∧ ∀ j (hj : j < txt.length), w.cell? (a.add j) = some (.int .u8 (txt[j].toNat : Int)) := by
  obtain ⟨ao, cap, hv⟩ := row_shape h
  rcases h.2 with ⟨e, h1⟩ | ⟨g, cap', cur, e, _⟩
  · omega
  · rw [e] at h
    refine ⟨⟨g, 0, none⟩, cap', e, fun j hj => ?_⟩
    have h2 := h.cellAt j (by omega)
    rw [addz, h2]
    simp [Lib.byteCells, hj]
end Go.Proofs.YtnpooilcpapkaaaGreatDoor
/- Contract of the program's signature: the walk. -/
namespace Go.Proofs.YtnpooilcpapkaaaGreatDoor
open Go.RowKit Go.Maps
attribute [local go_sem ↓] Go.wp_at_zero Go.wp_at_succ
/-- A signature's text. -/
def sigB (c : Int) (es : List Int) : ByteArray := ⟨(Ro.sigL c es).toArray⟩
theorem ends_take {n : Int} {c : List Nat} {zs : List Ro.St} {i : Nat} {z : Ro.St} (h : zs[i]? = some z) : Ro.ends n c (zs.take (i + 1)) = Ro.ends n c (zs.take i) ++ [z.1 * n + Ro.cl c z.2] := by
  rw [take_succ_of h]
  simp [Ro.ends]
theorem ends_set {N i : Nat} {xs : List Int} {x : Int} (hl : xs.length = i) (hi : i < N) : (iC xs ++ List.replicate (N - i) (Value.int .i64 0)).set i (.int .i64 x) = iC (xs ++ [x]) ++ List.replicate (N - (i + 1)) (.int .i64 0) := by
  have e : N - i = (N - (i + 1)) + 1 := by omega
  have hl2 : (iC xs).length = i := by simp [iC, hl]
  rw [e, List.replicate_succ, List.set_append_right _ _ (by omega), hl2, Nat.sub_self, List.set_cons_zero]
  simp [iC]
theorem ends_sort_mem {zs : List Int} {n : Int} (h : ∀ z ∈ zs, 0 ≤ z ∧ z < n) : ∀ z ∈ Ro.sd (zs.mergeSort fun x y => decide (x ≤ y)), 0 ≤ z ∧ z < n := fun z hz => h z ((sort_perm zs).mem_iff.1 (Ro.mem_sd.1 hz))
theorem sd_sort (zs : List Int) : Ro.sd (zs.mergeSort fun x y => decide (x ≤ y)) = Ro.sd zs := Ro.sd_eq.2 fun _ => (sort_perm zs).mem_iff
theorem cl_lt {c : List Nat} {n : Nat} (h : ∀ u ∈ c, u < n) (t : Int) (h0 : 0 < n) : Ro.cl c t < n := by
  unfold Ro.cl
  cases hx : c[t.toNat]? with
  | none => simpa using h0
  | some u => exact h u (List.mem_of_getElem? hx)
set_option maxRecDepth 100000 in
set_option maxHeartbeats 8000000 in
theorem signature_any (k n : Nat) (c : List Nat) (zs : List Ro.St) (vs vc : Value) (w : World) (hk : k ≤ 1000) (hn : n ≤ 1000) (hc : c.length = n) (hcl : ∀ u ∈ c, u < n) (hz : ∀ z ∈ zs, (0 ≤ z.1 ∧ z.1 ≤ 300) ∧ 0 ≤ z.2 ∧ z.2 < (n : Int)) (hzl : zs.length ≤ 10000) (hs : BSteps.Has w vs zs) (hv : HasI w vc (natI c)) (hP : Pow w) :
    Calls Tryz.prog 145 #[.int .i64 k, vs, vc] w fun r w' => r = .returned (.string (sigB k (Ro.sd (Ro.ends n c zs)))) ∧ Below w.heap.size w w' := by
  obtain ⟨i0, hi0, hz0, hz1, hz2⟩ := info_parts Tryz.infoU8
  have hs0 := hs
  obtain ⟨av, cs, rfl, _⟩ := hs0
  obtain ⟨ac, cc, rfl, hcs⟩ := hv
  obtain ⟨N, hN⟩ : ∃ N, N = zs.length := ⟨_, rfl⟩
  have hcn : (natI c).length = n := by simp [natI, hc]
  rw [hcn]
  rw [← hN] at hs hzl ⊢
  have HH : Hid _ := And.intro hs (And.intro hcs (And.intro hc (And.intro hcl (And.intro hz (And.intro hP hN)))))
  have hmk := makeI N (by omega) w
  clear hs hcs hc hcl hz hP hN hcn
  go_enter Tryz.func145, Tryz.ntmps145
  go_wp2_with fail
  clear hmk
  go_loopg [18] N (fun q iv wr => ∃ i : Nat, q = N - i ∧ i ≤ N ∧ iv = .int .i64 i ∧ Arr 3 w wr w.heap.size (iC (Ro.ends n c (zs.take i)) ++ List.replicate (N - i) (.int .i64 0)))
  case atStart => exact ⟨0, rfl, Nat.zero_le _, rfl, by have h1 := arr_new 3 (.int .i64 0) rfl N w; simpa [Ro.ends, iC] using h1⟩
  case round =>
    obtain ⟨i, rfl, hi, rfl, hA⟩ := hrel
    by_cases hlt : i < N
    · obtain ⟨⟨l, t0⟩, hzi⟩ : ∃ z, zs[i]? = some z := ⟨zs[i]'(by have := HH.out.2.2.2.2.2.2; omega), List.getElem?_eq_getElem _⟩
      have hzb := HH.out.2.2.2.2.1 _ (List.mem_of_getElem? hzi)
      simp only at hzb
      obtain ⟨t, rfl⟩ : ∃ t : Nat, t0 = (t : Int) := ⟨t0.toNat, by omega⟩
      obtain ⟨x, hx⟩ : ∃ x, c[t]? = some x := ⟨c[t]'(by have := HH.out.2.2.1; omega), List.getElem?_eq_getElem _⟩
      have hxn := HH.out.2.2.2.1 x (List.mem_of_getElem? hx)
      have hst := ends_take (n := n) (c := c) hzi
      have hcx : Ro.cl c (t : Int) = x := by unfold Ro.cl; rw [Int.toNat_natCast, hx]; rfl
      simp only [hcx] at hst
      obtain ⟨a, rfl, d0, d1⟩ := step_at (HH.out.1.below hA.bl) hzi
      simp only at d0 d1
      obtain ⟨a2, rfl, d2⟩ := HH.out.2.1 t (x : Int) (by simp [natI, hx])
      obtain ⟨wb, hwb⟩ : ∃ wb, wb = wr.alloc (.cells #[.int .i64 l, .int .i64 t] 129) := ⟨_, rfl⟩
      have hbb : Below wr.heap.size wr wb := by rw [hwb]; exact (Below.refl _ _).alloc (Nat.le_refl _) _
      have hgb : wb.heap[wr.heap.size]? = some (.cells #[.int .i64 l, .int .i64 t] 129 (0, 0)) := by rw [hwb]; exact heap_alloc_new wr _
      have f0 : wb.cell? ⟨wr.heap.size, 0, none⟩ = some (.int .i64 l) := cell0_of hgb rfl
      have f1 : wb.cell? ⟨wr.heap.size, 1, none⟩ = some (.int .i64 t) := cell0_of hgb rfl
      have hbw : Below w.heap.size w wb := hA.bl.trans (hbb.mono hA.bl.size)
      have f2 : wb.cell? (a2.add t) = some (.int .i64 x) := (hbw.cell (World.block_lt_of_cell? w _ d2)).trans d2
      have hAb := hA.below hbb
      have hel : (Ro.ends n c (zs.take i)).length = i := by simp [Ro.ends]; have := HH.out.2.2.2.2.2.2; omega
      have hix : (iC (Ro.ends n c (zs.take i)) ++ List.replicate (N - i) (Value.int .i64 0))[i]? = some (.int .i64 0) := by
        rw [List.getElem?_append_right (by simp [iC, hel]), List.getElem?_replicate, if_pos (by simp [iC, hel]; omega)]
      have cx := hAb.cell hix
      have cf := hAb.free i
      have hset := ends_set (x := l * n + x) hel hlt
      have hAs := hAb.set i (.int .i64 (l * n + x))
      rw [hset, ← hst] at hAs
      have p0 : (0 : Int) ≤ (i : Int) := by omega
      have p1 : (i : Int) < (N : Int) := by omega
      have p2 : (0 : Int) ≤ (t : Int) := by omega
      have p3 : (t : Int) < (n : Int) := by omega
      have hm0 : 0 ≤ l * (n : Int) := Int.mul_nonneg hzb.1.1 (by omega)
      have hm1 : l * (n : Int) ≤ 300 * 1000 := Int.mul_le_mul hzb.1.2 (by omega) (by omega) (by omega)
      have hm2 : IntKind.i64.wrap (l * (n : Int)) = l * (n : Int) := by rw [IntKind.wrap_i64]; omega
      have hm3 : IntKind.i64.wrap (l * (n : Int) + (x : Int)) = l * (n : Int) + (x : Int) := by rw [IntKind.wrap_i64]; omega
      have n1 : ¬ w.heap.size = wr.heap.size := by have := hA.lt; omega
      have n2 : ¬ wr.heap.size = w.heap.size := fun e => n1 e.symm
      have HZ : Hid _ := And.intro hwb hAs
      clear hwb hbb hgb hbw hAb hA hix hset hAs hst hzi hx hcx d2 hel hzb hxn
      go_upto_region 5 with fail
      rw [← HZ.out.1]
      go_region
      all_goals go_wp2_with fail
      all_goals
        go_roundg (N - (i + 1))
        case measure => omega
        case rel => exact ⟨i + 1, rfl, by omega, by go_num, HZ.out.2.below (Below.refl _ _).drew⟩
    · obtain rfl : i = N := by omega
      have k1 : ¬ (i : Int) < (i : Int) := by omega
      obtain ⟨E, hE⟩ : ∃ E, E = Ro.ends n c zs := ⟨_, rfl⟩
      have hEl : E.length = i := by rw [hE]; simp [Ro.ends]; exact HH.out.2.2.2.2.2.2.symm
      have hEb : ∀ z ∈ E, 0 ≤ z ∧ z < 1000000 := fun z hz => by
        rw [hE] at hz
        obtain ⟨y, hy, rfl⟩ := List.mem_map.1 hz
        have h1 := HH.out.2.2.2.2.1 y hy
        have h2 := cl_lt HH.out.2.2.2.1 y.2 (by omega)
        have hm0 : 0 ≤ y.1 * (n : Int) := Int.mul_nonneg h1.1.1 (by omega)
        have hm1 : y.1 * (n : Int) ≤ 300 * 1000 := Int.mul_le_mul h1.1.2 (by omega) (by omega) (by omega)
        omega
      rw [List.take_of_length_le (by have := HH.out.2.2.2.2.2.2; omega), ← hE, Nat.sub_self, List.replicate_zero, List.append_nil] at hA
      have hO : OwnI wr w.heap.size (.slice (some ⟨w.heap.size, 0, none⟩) E.length E.length) E := by
        have h1 := hA.own (by simp [iC, hEl]; unfold maxLen; omega)
        rw [show (iC E).length = E.length by simp [iC]] at h1
        exact h1
      have hS := sortI_any wr w.heap.size w.heap.size E.length E hO (by omega)
      have hfin : Ro.sd (Ro.ends n c zs) = Ro.sd (E.mergeSort fun x y => decide (x ≤ y)) := by rw [← hE, sd_sort]
      obtain ⟨E2, hE2⟩ : ∃ E2, E2 = E.mergeSort fun x y => decide (x ≤ y) := ⟨_, rfl⟩
      have hr2 : E2.Pairwise (· ≤ ·) := by rw [hE2]; exact sort_rise E
      have hl2 : E2.length = i := by rw [hE2, List.length_mergeSort]; exact hEl
      have hb2 : ∀ z ∈ Ro.sd E2, 0 ≤ z ∧ z < 1000000 := by rw [hE2]; exact ends_sort_mem hEb
      have hsl : (Ro.sd E2).length ≤ i := by have := Ro.sd_len E2; omega
      rw [← hE2] at hS hfin
      rw [hEl] at hS
      have H1 : Hid _ := And.intro hS (And.intro hA.bl (And.intro hr2 (And.intro hl2 (And.intro hb2 hfin))))
      clear hA hO hS hE hEl hEb hE2 hr2 hl2 hb2 hi hlt hfin
      go_wp2_with fail
      refine Calls.mono H1.out.1 ?_
      rintro r w2 ⟨rfl, hO2, hg2⟩
      have hbl2 : Below w.heap.size w w2 := H1.out.2.1.grown hg2 H1.out.2.1.size fun b e => by injection e with e; omega
      have H2 : Hid _ := And.intro hO2 hbl2
      clear hO2 hg2 hbl2
      go_wp2_with fail
      refine Calls.mono (Tryz.strconv_AppendInt_10 w.heap.size 0 (k : Int) (by omega) (by omega) (.slice none 0 0) [] w2 (World.ownsRow_nil _ _ _ _) H2.out.2.size (by omega) (HH.out.2.2.2.2.2.1.from H2.out.2)) ?_
      rintro r w3 ⟨tv, rfl, hO3, hb3, hk3⟩
      have hOI : OwnI w3 w.heap.size (.slice (some ⟨w.heap.size, 0, none⟩) E2.length i) E2 := by
        have h1 := H2.out.1
        rw [H1.out.2.2.2.1]
        refine trow_at h1 fun b hb => ?_
        obtain ⟨c1, hc1⟩ := row_cells h1 hb
        rw [hc1]
        exact hk3 b _ hc1 (by simp) (fun c fz e9 => by injection e9 with _ e9; exact absurd e9 (by decide))
      have hC := compactI_any w3 w.heap.size w.heap.size i E2 hOI H1.out.2.2.1
      rw [H1.out.2.2.2.1] at hC
      have htx : w3.ownsRow w.heap.size 5 1 tv (Lib.itoa (k : Int)).length (Lib.byteCells (Lib.itoa (k : Int))) := by simpa using hO3
      have H3 : Hid _ := And.intro hC (And.intro (H2.out.2.trans hb3) (And.intro htx (row_cells hOI rfl)))
      obtain ⟨at0, ct0, htv⟩ := row_shape htx
      subst htv
      clear hOI hC htx hO3 hb3 hk3
      go_wp2_with fail
      refine Calls.mono H3.out.1 ?_
      rintro r w4 ⟨rfl, hcur4, hg4⟩
      obtain ⟨es, hes⟩ : ∃ es, es = Ro.sd E2 := ⟨_, rfl⟩
      rw [← hes] at hcur4 hsl
      have hM0 : (Ro.sd E2).length = es.length := by rw [hes]
      rw [hM0]
      have hSg : SgAt w w4 w.heap.size (.slice at0 (Lib.itoa (k : Int)).length ct0) (Ro.sigL k (es.take 0)) es := by
        refine ⟨H3.out.2.1.grown hg4 H3.out.2.1.size (fun b e => by injection e with e; omega), Nat.le_refl _, hcur4, ?_⟩
        have e0 : Ro.sigL (k : Int) (es.take 0) = Lib.itoa (k : Int) := by simp [Ro.sigL, Ro.words]
        rw [e0]
        refine own_up H3.out.2.2.1 (Kept.of_grown hg4) fun b hb hF => ?_
        injection hF with hF
        obtain ⟨c1, hc1⟩ := H3.out.2.2.2
        exact own_bk H3.out.2.2.1 hc1 (by decide) (by rw [hF]; exact hb)
      have hb4 : ∀ z ∈ es, 0 ≤ z ∧ z < 1000000 := by rw [hes]; exact H1.out.2.2.2.2.1
      have H4 : Hid _ := And.intro hSg (And.intro hb4 (hes.trans H1.out.2.2.2.2.2.symm))
      obtain ⟨M, hM⟩ : ∃ M, M = es.length := ⟨_, rfl⟩
      rw [← hM] at hsl ⊢
      have HM : Hid (M = es.length) := hM
      clear hSg hb4 hes hM hcur4 hg4 hM0
      go_wp2_with fail
      go_loopg [10, 45] M (fun q tv jv wr => ∃ j : Nat, q = M - j ∧ j ≤ M ∧ jv = .int .i64 j ∧ SgAt w wr w.heap.size tv (Ro.sigL k (es.take j)) es)
      case atStart => exact ⟨0, rfl, Nat.zero_le _, rfl, H4.out.1⟩
      case round =>
        obtain ⟨j, rfl, hj, rfl, hG⟩ := hrel
        obtain ⟨w5, rfl⟩ : ∃ w5, w5 = wr := ⟨_, rfl⟩
        have hlen := Ro.sigL_len k (es.take j) (by omega) (by omega) (fun z hz => H4.out.2.1 z (List.mem_of_mem_take hz))
        have hpos := Ro.sigL_pos k (es.take j)
        obtain ⟨a5, c5, hv5, hc5⟩ := byte_row hG.text hpos
        subst hv5
        obtain ⟨tx, htx⟩ : ∃ tx, tx = Ro.sigL k (es.take j) := ⟨_, rfl⟩
        rw [← htx] at hG hlen hpos hc5 ⊢
        obtain ⟨T, hT⟩ : ∃ T, T = tx.length := ⟨_, rfl⟩
        have hTl : T ≤ 100000 := by rw [hT]; rw [List.length_take] at hlen; omega
        by_cases hjM : j < M
        · obtain ⟨z, hz⟩ : ∃ z, es[j]? = some z := ⟨es[j]'(by have := HM.out; omega), List.getElem?_eq_getElem _⟩
          have hzb := H4.out.2.1 z (List.mem_of_getElem? hz)
          have cz := hG.cell hz
          have p0 : (0 : Int) ≤ (j : Int) := by omega
          have p1 : (j : Int) < (M : Int) := by omega
          have hOz : w5.ownsRow w.heap.size 5 1 (.slice (some a5) T c5) T (Lib.byteCells tx) := by rw [hT]; exact hG.text
          have hml : T + 1 ≤ maxLen := by unfold maxLen; omega
          have hby : (T + 1) * 1 ≤ 140737488355328 := by omega
          have hle : w.heap.size ≤ (w5.alloc (.cells #[.int .u8 32] 5)).heap.size := by have := hG.bl.size; simp; omega
          rw [← hT]
          have HG : Hid _ := And.intro hG (And.intro hOz (And.intro htx (And.intro hz hT)))
          clear hG hOz htx hz hT hc5 hlen hpos
          go_upto_region 13 with (at_builtin; refine wpList_append_own_at _ rfl _ _ 195 rfl w.heap.size 5 i0 (.int .u8 0) 1 1 Tryz.underlying195 hi0 hz0 hz1 hz2 rfl (by decide) (.slice (some a5) T c5) T (Lib.byteCells tx) rfl (HG.out.2.1.alloc _) ⟨w5.heap.size, 0, none⟩ 1 1 [.int .u8 32] rfl rfl (World.news_of_block (cs := #[.int .u8 32]) (t := 5) (fr := (0, 0)) (heap_alloc_new w5 _)) (by simp [Value.oneCell']) hml hby hle ?_; intro v6 w6 hO6 hg6 hnil6 hat6; have H6 : Hid _ := And.intro hO6 hg6; clear hO6 hg6 hnil6 hat6)
          have hG6 := HG.out.1.sp (by rw [← HG.out.2.2.2.2]; exact H6.out.1) (by rw [← HG.out.2.2.2.2]; exact H6.out.2)
          have hN := Tryz.strconv_AppendInt_10 w.heap.size (T + 1) z (by omega) (by omega) v6 _ w6 H6.out.1 hG6.bl.size (by omega) (HH.out.2.2.2.2.2.1.from hG6.bl)
          have H7 : Hid _ := And.intro hN hG6
          clear hN hG6
          go_wp2_with fail
          refine Calls.mono H7.out.1 ?_
          rintro r w7 ⟨v7, rfl, hO7, hb7, hk7⟩
          have H8 : Hid _ := H7.out.2.num z (by rw [List.length_append, ← HG.out.2.2.2.2, show Lib.byteCells (tx ++ [32]) = Lib.byteCells tx ++ [.int .u8 32] by simp [Lib.byteCells]]; exact hO7) hb7 hk7
          clear hO7 hb7 hk7
          go_wp2_with fail
          go_roundg (M - (j + 1))
          case measure => omega
          case rel =>
            refine ⟨j + 1, rfl, by omega, by go_num, ?_⟩
            have h9 := H8.out
            rw [HG.out.2.2.1, List.append_assoc, show ([32] : List UInt8) ++ Lib.itoa z = 32 :: Lib.itoa z from rfl, Ro.sigL_snoc, ← take_succ_of HG.out.2.2.2.1] at h9
            exact h9
        · obtain rfl : j = M := by omega
          have p1 : ¬ (j : Int) < (j : Int) := by omega
          have hcv := run_convert_bytes_back (P := Tryz.prog) w5 195 9 5 a5 c5 tx Tryz.underlying195 Tryz.underlying5 Tryz.underlying9 hc5
          rw [List.take_of_length_le (by have := HM.out; omega)] at htx
          have HG : Hid _ := And.intro hG.bl htx
          clear hG htx hc5 hlen hpos hT
          go_wp2_with fail
          go_ret
          refine ⟨?_, HG.out.1⟩
          rw [HG.out.2, ← H4.out.2.2]
          rfl
end Go.Proofs.YtnpooilcpapkaaaGreatDoor
