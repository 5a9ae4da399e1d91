/-
  The laws as plain functions. No condition.
-/
import Derived.WalkKit
import Derived.Deep.LoopGhost
import Derived.Deep.Draws
import Derived.KernelRfl
import Derived.Test.YtglkepeofhonlaaGreatDoorKeys
import Derived.Test.YtglkepeofhonlaaGreatDoorSort
import Derived.Test.YtglkepeofhonlaaGreatDoorJoin
import Derived.Test.YtglkepeofhonlaaGreatDoorSortF
import Derived.Test.YtglkepeofhonlaaGreatDoorProg
namespace Go.Proofs.YtglkepeofhonlaaGreatDoor
open Go Go.RowKit Go.Maps Go.Sort Go.Shelf Go.Lib
def zAN : Go.Shelf.Ren := ⟨fun | 6 => 64 | 15 => 84 | 14 => 83 | 28 => 105 | 29 => 106 | 20 => 97 | 21 => 98 | 22 => 99 | 23 => 100 | 24 => 101 | 25 => 102 | 26 => 103 | 27 => 104 | 46 => 126 | 47 => 127 | 48 => 128 | 49 => 129 | 50 => 130 | 57 => 144 | n => n, fun | 22 => 25 | 24 => 30 | 25 => 81 | 3 => 3 | 39 => 124 | 0 => 0 | 53 => 147 | 55 => 149 | 4 => 4 | 46 => 141 | 45 => 140 | 50 => 102 | 5 => 5 | 9 => 9 | 66 => 177 | 70 => 181 | 76 => 188 | 77 => 189 | n => n, fun | n => n⟩
theorem lt64 : Go.Proofs.SlLaysF.n6 Tryz.prog zAN := {
  mixed := by kernel_rfl,
  f6 := ⟨Tryz.f64.name, by decide, Tryz.func64.trans (congrArg some (by kernel_rfl))⟩,
  f14 := ⟨Tryz.f83.name, by decide, Tryz.func83.trans (congrArg some (by kernel_rfl))⟩,
  f15 := Tryz.func84.trans (congrArg some (by kernel_rfl)),
  f20 := ⟨Tryz.f97.name, by decide, Tryz.func97.trans (congrArg some (by kernel_rfl))⟩,
  f21 := ⟨Tryz.f98.name, by decide, Tryz.func98.trans (congrArg some (by kernel_rfl))⟩,
  f22 := ⟨Tryz.f99.name, by decide, Tryz.func99.trans (congrArg some (by kernel_rfl))⟩,
  f23 := ⟨Tryz.f100.name, by decide, Tryz.func100.trans (congrArg some (by kernel_rfl))⟩,
  f24 := ⟨Tryz.f101.name, by decide, Tryz.func101.trans (congrArg some (by kernel_rfl))⟩,
  f25 := ⟨Tryz.f102.name, by decide, Tryz.func102.trans (congrArg some (by kernel_rfl))⟩,
  f26 := ⟨Tryz.f103.name, by decide, Tryz.func103.trans (congrArg some (by kernel_rfl))⟩,
  f27 := ⟨Tryz.f104.name, by decide, Tryz.func104.trans (congrArg some (by kernel_rfl))⟩,
  f28 := Tryz.func105.trans (congrArg some (by kernel_rfl)),
  f29 := Tryz.func106.trans (congrArg some (by kernel_rfl)),
  f46 := ⟨Tryz.f126.name, by decide, Tryz.func126.trans (congrArg some (by kernel_rfl))⟩,
  f47 := Tryz.func127.trans (congrArg some (by kernel_rfl)),
  f48 := Tryz.func128.trans (congrArg some (by kernel_rfl)),
  f49 := ⟨Tryz.f129.name, by decide, Tryz.func129.trans (congrArg some (by kernel_rfl))⟩,
  f50 := ⟨Tryz.f130.name, by decide, Tryz.func130.trans (congrArg some (by kernel_rfl))⟩,
  f57 := ⟨Tryz.f144.name, by decide, Tryz.func144.trans (congrArg some (by kernel_rfl))⟩,
  t0 := Tryz.underlying0,
  a0 := Tryz.isAgg0,
  z0 := Tryz.sizeOf0,
  v0 := Tryz.zeroValue0,
  t3 := Tryz.underlying3,
  a3 := Tryz.isAgg3,
  z3 := Tryz.sizeOf3,
  v3 := Tryz.zeroValue3,
  t4 := Tryz.underlying4,
  a4 := Tryz.isAgg4,
  z4 := Tryz.sizeOf4,
  v4 := Tryz.zeroValue4,
  t5 := Tryz.underlying5,
  a5 := Tryz.isAgg5,
  z5 := Tryz.sizeOf5,
  v5 := Tryz.zeroValue5,
  t9 := Tryz.underlying9,
  a9 := Tryz.isAgg9,
  z9 := Tryz.sizeOf9,
  v9 := Tryz.zeroValue9,
  t22 := Tryz.underlying25,
  a22 := Tryz.isAgg25,
  z22 := Tryz.sizeOf25,
  v22 := Tryz.zeroValue25,
  a24 := Tryz.isAgg30,
  z24 := Tryz.sizeOf30,
  t25 := Tryz.underlying81,
  a25 := Tryz.isAgg81,
  z25 := Tryz.sizeOf81,
  v25 := Tryz.zeroValue81,
  t39 := Tryz.underlying124,
  a39 := Tryz.isAgg124,
  z39 := Tryz.sizeOf124,
  v39 := Tryz.zeroValue124,
  t45 := Tryz.underlying140,
  a45 := Tryz.isAgg140,
  z45 := Tryz.sizeOf140,
  v45 := Tryz.zeroValue140,
  t46 := Tryz.underlying141,
  a46 := Tryz.isAgg141,
  z46 := Tryz.sizeOf141,
  v46 := Tryz.zeroValue141,
  t50 := Tryz.underlying102,
  a50 := Tryz.isAgg102,
  z50 := Tryz.sizeOf102,
  v50 := Tryz.zeroValue102,
  t53 := Tryz.underlying147,
  a53 := Tryz.isAgg147,
  z53 := Tryz.sizeOf147,
  v53 := Tryz.zeroValue147,
  t55 := Tryz.underlying149,
  a55 := Tryz.isAgg149,
  z55 := Tryz.sizeOf149,
  v55 := Tryz.zeroValue149,
  t66 := Tryz.underlying177,
  a66 := Tryz.isAgg177,
  z66 := Tryz.sizeOf177,
  v66 := Tryz.zeroValue177,
  t70 := Tryz.underlying181,
  a70 := Tryz.isAgg181,
  z70 := Tryz.sizeOf181,
  v70 := Tryz.zeroValue181,
  t76 := Tryz.underlying188,
  a76 := Tryz.isAgg188,
  z76 := Tryz.sizeOf188,
  v76 := Tryz.zeroValue188,
  t77 := Tryz.underlying189,
  a77 := Tryz.isAgg189,
  z77 := Tryz.sizeOf189,
  v77 := Tryz.zeroValue189 }
def zwu : Go.Shelf.Ren := ⟨fun | 156 => 87 | 165 => 107 | 166 => 108 | 169 => 109 | 240 => 131 | 241 => 132 | 276 => 145 | 277 => 146 | n => n, fun | 31 => 24 | 9 => 9 | 3 => 3 | 4 => 4 | 0 => 0 | 20 => 20 | 72 => 153 | 76 => 157 | 70 => 150 | 37 => 151 | 75 => 156 | 127 => 183 | 164 => 191 | 5 => 5 | 80 => 159 | n => n, fun | n => n⟩
theorem lj87 : Go.Proofs.Lays.n156 Tryz.prog zwu := {
  mixed := by kernel_rfl,
  f156 := Tryz.func87.trans (congrArg some (by kernel_rfl)),
  f165 := Tryz.func107.trans (congrArg some (by kernel_rfl)),
  f166 := Tryz.func108.trans (congrArg some (by kernel_rfl)),
  f169 := Tryz.func109.trans (congrArg some (by kernel_rfl)),
  f240 := Tryz.func131.trans (congrArg some (by kernel_rfl)),
  f241 := Tryz.func132.trans (congrArg some (by kernel_rfl)),
  f276 := Tryz.func145.trans (congrArg some (by kernel_rfl)),
  f277 := Tryz.func146.trans (congrArg some (by kernel_rfl)),
  t0 := Tryz.underlying0,
  a0 := Tryz.isAgg0,
  z0 := Tryz.sizeOf0,
  v0 := Tryz.zeroValue0,
  t3 := Tryz.underlying3,
  a3 := Tryz.isAgg3,
  z3 := Tryz.sizeOf3,
  v3 := Tryz.zeroValue3,
  t4 := Tryz.underlying4,
  a4 := Tryz.isAgg4,
  z4 := Tryz.sizeOf4,
  v4 := Tryz.zeroValue4,
  t9 := Tryz.underlying9,
  a9 := Tryz.isAgg9,
  z9 := Tryz.sizeOf9,
  v9 := Tryz.zeroValue9,
  t20 := Tryz.underlying20,
  a20 := Tryz.isAgg20,
  z20 := Tryz.sizeOf20,
  v20 := Tryz.zeroValue20,
  t31 := Tryz.underlying24,
  a31 := Tryz.isAgg24,
  z31 := Tryz.sizeOf24,
  v31 := Tryz.zeroValue24,
  t37 := Tryz.underlying151,
  a37 := Tryz.isAgg151,
  z37 := Tryz.sizeOf151,
  v37 := Tryz.zeroValue151,
  t70 := Tryz.underlying150,
  a70 := Tryz.isAgg150,
  z70 := Tryz.sizeOf150,
  v70 := Tryz.zeroValue150,
  t72 := Tryz.underlying153,
  a72 := Tryz.isAgg153,
  z72 := Tryz.sizeOf153,
  v72 := Tryz.zeroValue153,
  t75 := Tryz.underlying156,
  a75 := Tryz.isAgg156,
  z75 := Tryz.sizeOf156,
  v75 := Tryz.zeroValue156,
  t76 := Tryz.underlying157,
  a76 := Tryz.isAgg157,
  z76 := Tryz.sizeOf157,
  v76 := Tryz.zeroValue157,
  t127 := Tryz.underlying183,
  a127 := Tryz.isAgg183,
  z127 := Tryz.sizeOf183,
  v127 := Tryz.zeroValue183,
  t164 := Tryz.underlying191,
  a164 := Tryz.isAgg191,
  z164 := Tryz.sizeOf191,
  v164 := Tryz.zeroValue191 }
def zAI : Go.Shelf.Ren := ⟨fun | 44 => 92 | n => n, fun | 25 => 24 | 26 => 9 | 3 => 3 | 4 => 4 | 0 => 0 | n => n, fun | n => n⟩
theorem lc92 : Go.Proofs.SlLaysN.n44 Tryz.prog zAI := {
  mixed := by kernel_rfl,
  f44 := ⟨Tryz.f92.name, by decide, Tryz.func92.trans (congrArg some (by kernel_rfl))⟩,
  t0 := Tryz.underlying0,
  a0 := Tryz.isAgg0,
  z0 := Tryz.sizeOf0,
  v0 := Tryz.zeroValue0,
  t3 := Tryz.underlying3,
  a3 := Tryz.isAgg3,
  z3 := Tryz.sizeOf3,
  v3 := Tryz.zeroValue3,
  t4 := Tryz.underlying4,
  a4 := Tryz.isAgg4,
  z4 := Tryz.sizeOf4,
  v4 := Tryz.zeroValue4,
  t25 := Tryz.underlying24,
  a25 := Tryz.isAgg24,
  z25 := Tryz.sizeOf24,
  v25 := Tryz.zeroValue24,
  t26 := Tryz.underlying9,
  a26 := Tryz.isAgg9,
  z26 := Tryz.sizeOf9,
  v26 := Tryz.zeroValue9,
  i26 := by kernel_rfl }
def zzm : Go.Shelf.Ren := ⟨fun | 6 => 122 | 8 => 84 | 9 => 143 | 19 => 105 | 20 => 106 | 21 => 154 | 22 => 155 | 23 => 156 | 24 => 157 | 25 => 158 | 26 => 159 | 27 => 160 | 28 => 161 | 29 => 162 | 36 => 174 | 31 => 127 | 32 => 128 | 37 => 175 | 38 => 176 | 39 => 177 | 41 => 181 | n => n, fun | 27 => 24 | 29 => 9 | 3 => 3 | 32 => 124 | 26 => 24 | 0 => 0 | 44 => 147 | 46 => 149 | 4 => 4 | 36 => 141 | 35 => 140 | 41 => 102 | 5 => 5 | 9 => 9 | 53 => 177 | 57 => 181 | 63 => 188 | 64 => 189 | n => n, fun | n => n⟩
theorem zDe : Go.Proofs.SlLaysM.n6 Tryz.prog zzm := {
  mixed := by kernel_rfl,
  f6 := ⟨Tryz.f122.name, by decide, Tryz.func122.trans (congrArg some (by kernel_rfl))⟩,
  f8 := Tryz.func84.trans (congrArg some (by kernel_rfl)),
  f9 := ⟨Tryz.f143.name, by decide, Tryz.func143.trans (congrArg some (by kernel_rfl))⟩,
  f19 := Tryz.func105.trans (congrArg some (by kernel_rfl)),
  f20 := Tryz.func106.trans (congrArg some (by kernel_rfl)),
  f21 := ⟨Tryz.f154.name, by decide, Tryz.func154.trans (congrArg some (by kernel_rfl))⟩,
  f22 := ⟨Tryz.f155.name, by decide, Tryz.func155.trans (congrArg some (by kernel_rfl))⟩,
  f23 := ⟨Tryz.f156.name, by decide, Tryz.func156.trans (congrArg some (by kernel_rfl))⟩,
  f24 := ⟨Tryz.f157.name, by decide, Tryz.func157.trans (congrArg some (by kernel_rfl))⟩,
  f25 := ⟨Tryz.f158.name, by decide, Tryz.func158.trans (congrArg some (by kernel_rfl))⟩,
  f26 := ⟨Tryz.f159.name, by decide, Tryz.func159.trans (congrArg some (by kernel_rfl))⟩,
  f27 := ⟨Tryz.f160.name, by decide, Tryz.func160.trans (congrArg some (by kernel_rfl))⟩,
  f28 := ⟨Tryz.f161.name, by decide, Tryz.func161.trans (congrArg some (by kernel_rfl))⟩,
  f29 := ⟨Tryz.f162.name, by decide, Tryz.func162.trans (congrArg some (by kernel_rfl))⟩,
  f31 := Tryz.func127.trans (congrArg some (by kernel_rfl)),
  f32 := Tryz.func128.trans (congrArg some (by kernel_rfl)),
  f36 := ⟨Tryz.f174.name, by decide, Tryz.func174.trans (congrArg some (by kernel_rfl))⟩,
  f37 := ⟨Tryz.f175.name, by decide, Tryz.func175.trans (congrArg some (by kernel_rfl))⟩,
  f38 := ⟨Tryz.f176.name, by decide, Tryz.func176.trans (congrArg some (by kernel_rfl))⟩,
  f39 := ⟨Tryz.f177.name, by decide, Tryz.func177.trans (congrArg some (by kernel_rfl))⟩,
  f41 := ⟨Tryz.f181.name, by decide, Tryz.func181.trans (congrArg some (by kernel_rfl))⟩,
  t0 := Tryz.underlying0,
  a0 := Tryz.isAgg0,
  z0 := Tryz.sizeOf0,
  v0 := Tryz.zeroValue0,
  t3 := Tryz.underlying3,
  a3 := Tryz.isAgg3,
  z3 := Tryz.sizeOf3,
  v3 := Tryz.zeroValue3,
  t4 := Tryz.underlying4,
  a4 := Tryz.isAgg4,
  z4 := Tryz.sizeOf4,
  v4 := Tryz.zeroValue4,
  t5 := Tryz.underlying5,
  a5 := Tryz.isAgg5,
  z5 := Tryz.sizeOf5,
  v5 := Tryz.zeroValue5,
  t9 := Tryz.underlying9,
  a9 := Tryz.isAgg9,
  z9 := Tryz.sizeOf9,
  v9 := Tryz.zeroValue9,
  t26 := Tryz.underlying24,
  a26 := Tryz.isAgg24,
  z26 := Tryz.sizeOf24,
  v26 := Tryz.zeroValue24,
  t27 := Tryz.underlying24,
  a27 := Tryz.isAgg24,
  z27 := Tryz.sizeOf24,
  v27 := Tryz.zeroValue24,
  t29 := Tryz.underlying9,
  a29 := Tryz.isAgg9,
  z29 := Tryz.sizeOf9,
  v29 := Tryz.zeroValue9,
  t32 := Tryz.underlying124,
  a32 := Tryz.isAgg124,
  z32 := Tryz.sizeOf124,
  v32 := Tryz.zeroValue124,
  t35 := Tryz.underlying140,
  a35 := Tryz.isAgg140,
  z35 := Tryz.sizeOf140,
  v35 := Tryz.zeroValue140,
  t36 := Tryz.underlying141,
  a36 := Tryz.isAgg141,
  z36 := Tryz.sizeOf141,
  v36 := Tryz.zeroValue141,
  t41 := Tryz.underlying102,
  a41 := Tryz.isAgg102,
  z41 := Tryz.sizeOf102,
  v41 := Tryz.zeroValue102,
  t44 := Tryz.underlying147,
  a44 := Tryz.isAgg147,
  z44 := Tryz.sizeOf147,
  v44 := Tryz.zeroValue147,
  t46 := Tryz.underlying149,
  a46 := Tryz.isAgg149,
  z46 := Tryz.sizeOf149,
  v46 := Tryz.zeroValue149,
  t53 := Tryz.underlying177,
  a53 := Tryz.isAgg177,
  z53 := Tryz.sizeOf177,
  v53 := Tryz.zeroValue177,
  t57 := Tryz.underlying181,
  a57 := Tryz.isAgg181,
  z57 := Tryz.sizeOf181,
  v57 := Tryz.zeroValue181,
  t63 := Tryz.underlying188,
  a63 := Tryz.isAgg188,
  z63 := Tryz.sizeOf188,
  v63 := Tryz.zeroValue188,
  t64 := Tryz.underlying189,
  a64 := Tryz.isAgg189,
  z64 := Tryz.sizeOf189,
  v64 := Tryz.zeroValue189 }
def zzh : Go.Shelf.Ren := ⟨fun | 7 => 111 | 10 => 135 | n => n, fun | 23 => 164 | 26 => 3 | 3 => 166 | 28 => 162 | 0 => 0 | 27 => 161 | 33 => 50 | 4 => 4 | n => n, fun | n => n⟩
theorem zDd : Go.Proofs.SlLaysZI.n7 Tryz.prog zzh := {
  mixed := by kernel_rfl,
  f7 := ⟨Tryz.f111.name, by decide, Tryz.func111.trans (congrArg some (by kernel_rfl))⟩,
  f10 := ⟨Tryz.f135.name, by decide, Tryz.func135.trans (congrArg some (by kernel_rfl))⟩,
  t0 := Tryz.underlying0,
  a0 := Tryz.isAgg0,
  z0 := Tryz.sizeOf0,
  v0 := Tryz.zeroValue0,
  t4 := Tryz.underlying4,
  a4 := Tryz.isAgg4,
  z4 := Tryz.sizeOf4,
  v4 := Tryz.zeroValue4,
  t23 := Tryz.underlying164,
  a23 := Tryz.isAgg164,
  z23 := Tryz.sizeOf164,
  v23 := Tryz.zeroValue164,
  t26 := Tryz.underlying3,
  a26 := Tryz.isAgg3,
  z26 := Tryz.sizeOf3,
  v26 := Tryz.zeroValue3,
  t27 := Tryz.underlying161,
  a27 := Tryz.isAgg161,
  z27 := Tryz.sizeOf161,
  v27 := Tryz.zeroValue161,
  t28 := Tryz.underlying162,
  a28 := Tryz.isAgg162,
  z28 := Tryz.sizeOf162,
  v28 := Tryz.zeroValue162,
  t33 := Tryz.underlying50,
  a33 := Tryz.isAgg50,
  z33 := Tryz.sizeOf50,
  v33 := Tryz.zeroValue50 }
def zzg : Go.Shelf.Ren := ⟨fun | 6 => 110 | 8 => 133 | 9 => 134 | 11 => 147 | 13 => 84 | 12 => 148 | 23 => 105 | 24 => 106 | 14 => 163 | 15 => 164 | 16 => 165 | 17 => 166 | 18 => 167 | 19 => 168 | 20 => 169 | 21 => 170 | 22 => 171 | 25 => 178 | 26 => 127 | 27 => 128 | 28 => 179 | 29 => 180 | 30 => 85 | 31 => 182 | n => n, fun | 26 => 3 | 28 => 162 | 24 => 30 | 0 => 0 | 3 => 3 | 37 => 124 | 48 => 147 | 50 => 149 | 4 => 4 | 40 => 141 | 39 => 140 | 45 => 102 | 5 => 5 | 9 => 9 | 51 => 177 | 55 => 181 | 57 => 188 | 58 => 189 | 33 => 50 | n => n, fun | n => n⟩
theorem zDc : Go.Proofs.SlLaysZI.n6 Tryz.prog zzg := {
  mixed := by kernel_rfl,
  f6 := ⟨Tryz.f110.name, by decide, Tryz.func110.trans (congrArg some (by kernel_rfl))⟩,
  f8 := ⟨Tryz.f133.name, by decide, Tryz.func133.trans (congrArg some (by kernel_rfl))⟩,
  f11 := ⟨Tryz.f147.name, by decide, Tryz.func147.trans (congrArg some (by kernel_rfl))⟩,
  t0 := Tryz.underlying0,
  a0 := Tryz.isAgg0,
  z0 := Tryz.sizeOf0,
  v0 := Tryz.zeroValue0,
  t24 := Tryz.underlying30,
  a24 := Tryz.isAgg30,
  z24 := Tryz.sizeOf30,
  v24 := Tryz.zeroValue30,
  t26 := Tryz.underlying3,
  a26 := Tryz.isAgg3,
  z26 := Tryz.sizeOf3,
  v26 := Tryz.zeroValue3,
  t28 := Tryz.underlying162,
  a28 := Tryz.isAgg162,
  z28 := Tryz.sizeOf162,
  v28 := Tryz.zeroValue162,
  i26 := by kernel_rfl }
def zzi : Go.Shelf.Ren := ⟨fun | 5 => 134 | 8 => 84 | 7 => 148 | 19 => 105 | 20 => 106 | 10 => 163 | 11 => 164 | 12 => 165 | 13 => 166 | 14 => 167 | 15 => 168 | 16 => 169 | 17 => 170 | 18 => 171 | 30 => 178 | 31 => 127 | 32 => 128 | 33 => 179 | 34 => 180 | 35 => 85 | 40 => 182 | n => n, fun | 23 => 30 | 25 => 3 | 3 => 3 | 32 => 124 | 22 => 30 | 0 => 0 | 44 => 147 | 46 => 149 | 4 => 4 | 36 => 141 | 35 => 140 | 41 => 102 | 5 => 5 | 9 => 9 | 53 => 177 | 57 => 181 | 63 => 188 | 64 => 189 | n => n, fun | n => n⟩
theorem zCo : Go.Proofs.SlLaysM.n5 Tryz.prog zzi := {
  mixed := by kernel_rfl,
  f5 := ⟨Tryz.f134.name, by decide, Tryz.func134.trans (congrArg some (by kernel_rfl))⟩,
  f7 := ⟨Tryz.f148.name, by decide, Tryz.func148.trans (congrArg some (by kernel_rfl))⟩,
  f8 := Tryz.func84.trans (congrArg some (by kernel_rfl)),
  f10 := ⟨Tryz.f163.name, by decide, Tryz.func163.trans (congrArg some (by kernel_rfl))⟩,
  f11 := ⟨Tryz.f164.name, by decide, Tryz.func164.trans (congrArg some (by kernel_rfl))⟩,
  f12 := ⟨Tryz.f165.name, by decide, Tryz.func165.trans (congrArg some (by kernel_rfl))⟩,
  f13 := ⟨Tryz.f166.name, by decide, Tryz.func166.trans (congrArg some (by kernel_rfl))⟩,
  f14 := ⟨Tryz.f167.name, by decide, Tryz.func167.trans (congrArg some (by kernel_rfl))⟩,
  f15 := ⟨Tryz.f168.name, by decide, Tryz.func168.trans (congrArg some (by kernel_rfl))⟩,
  f16 := ⟨Tryz.f169.name, by decide, Tryz.func169.trans (congrArg some (by kernel_rfl))⟩,
  f17 := ⟨Tryz.f170.name, by decide, Tryz.func170.trans (congrArg some (by kernel_rfl))⟩,
  f18 := ⟨Tryz.f171.name, by decide, Tryz.func171.trans (congrArg some (by kernel_rfl))⟩,
  f19 := Tryz.func105.trans (congrArg some (by kernel_rfl)),
  f20 := Tryz.func106.trans (congrArg some (by kernel_rfl)),
  f30 := ⟨Tryz.f178.name, by decide, Tryz.func178.trans (congrArg some (by kernel_rfl))⟩,
  f31 := Tryz.func127.trans (congrArg some (by kernel_rfl)),
  f32 := Tryz.func128.trans (congrArg some (by kernel_rfl)),
  f33 := ⟨Tryz.f179.name, by decide, Tryz.func179.trans (congrArg some (by kernel_rfl))⟩,
  f34 := ⟨Tryz.f180.name, by decide, Tryz.func180.trans (congrArg some (by kernel_rfl))⟩,
  f35 := ⟨Tryz.f85.name, by decide, Tryz.func85.trans (congrArg some (by kernel_rfl))⟩,
  f40 := ⟨Tryz.f182.name, by decide, Tryz.func182.trans (congrArg some (by kernel_rfl))⟩,
  t0 := Tryz.underlying0,
  a0 := Tryz.isAgg0,
  z0 := Tryz.sizeOf0,
  v0 := Tryz.zeroValue0,
  t3 := Tryz.underlying3,
  a3 := Tryz.isAgg3,
  z3 := Tryz.sizeOf3,
  v3 := Tryz.zeroValue3,
  t4 := Tryz.underlying4,
  a4 := Tryz.isAgg4,
  z4 := Tryz.sizeOf4,
  v4 := Tryz.zeroValue4,
  t5 := Tryz.underlying5,
  a5 := Tryz.isAgg5,
  z5 := Tryz.sizeOf5,
  v5 := Tryz.zeroValue5,
  t9 := Tryz.underlying9,
  a9 := Tryz.isAgg9,
  z9 := Tryz.sizeOf9,
  v9 := Tryz.zeroValue9,
  t22 := Tryz.underlying30,
  a22 := Tryz.isAgg30,
  z22 := Tryz.sizeOf30,
  v22 := Tryz.zeroValue30,
  t23 := Tryz.underlying30,
  a23 := Tryz.isAgg30,
  z23 := Tryz.sizeOf30,
  v23 := Tryz.zeroValue30,
  t25 := Tryz.underlying3,
  a25 := Tryz.isAgg3,
  z25 := Tryz.sizeOf3,
  v25 := Tryz.zeroValue3,
  t32 := Tryz.underlying124,
  a32 := Tryz.isAgg124,
  z32 := Tryz.sizeOf124,
  v32 := Tryz.zeroValue124,
  t35 := Tryz.underlying140,
  a35 := Tryz.isAgg140,
  z35 := Tryz.sizeOf140,
  v35 := Tryz.zeroValue140,
  t36 := Tryz.underlying141,
  a36 := Tryz.isAgg141,
  z36 := Tryz.sizeOf141,
  v36 := Tryz.zeroValue141,
  t41 := Tryz.underlying102,
  a41 := Tryz.isAgg102,
  z41 := Tryz.sizeOf102,
  v41 := Tryz.zeroValue102,
  t44 := Tryz.underlying147,
  a44 := Tryz.isAgg147,
  z44 := Tryz.sizeOf147,
  v44 := Tryz.zeroValue147,
  t46 := Tryz.underlying149,
  a46 := Tryz.isAgg149,
  z46 := Tryz.sizeOf149,
  v46 := Tryz.zeroValue149,
  t53 := Tryz.underlying177,
  a53 := Tryz.isAgg177,
  z53 := Tryz.sizeOf177,
  v53 := Tryz.zeroValue177,
  t57 := Tryz.underlying181,
  a57 := Tryz.isAgg181,
  z57 := Tryz.sizeOf181,
  v57 := Tryz.zeroValue181,
  t63 := Tryz.underlying188,
  a63 := Tryz.isAgg188,
  z63 := Tryz.sizeOf188,
  v63 := Tryz.zeroValue188,
  t64 := Tryz.underlying189,
  a64 := Tryz.isAgg189,
  z64 := Tryz.sizeOf189,
  v64 := Tryz.zeroValue189 }
theorem xj87 : Builder.Extra Tryz.prog zwu := {
  sizeBuilder := by kernel_rfl,
  liesBuilder := by kernel_rfl,
  t5 := Tryz.underlying5,
  a5 := Tryz.isAgg5,
  z5 := Tryz.sizeOf5,
  v5 := Tryz.zeroValue5,
  infoByte := by kernel_rfl,
  cellsByte := by kernel_rfl,
  sizeByte := by kernel_rfl,
  neB5 := by decide }
theorem cm92 : zzP Tryz.prog 92 := zBC lc92
theorem zAP (x : Int) (w : World) : Calls Tryz.prog 85 #[.int .i64 x] w fun e w' => e = .returned (.bool false) ∧ ∃ q, w' = w.drewN q := by
  go_enter Tryz.func85, Tryz.ntmps85
  go_wp2
  all_goals (go_ret; exact ⟨by simp, 0, rfl⟩)
theorem zCt (x y : Int) (h : x < y) (w : World) : Calls Tryz.prog 66 #[.int .i64 x, .int .i64 y] w fun e w' => e = .returned (.int .i64 (-1)) ∧ ∃ q, w' = w.drewN q := by
  go_enter Tryz.func66, Tryz.ntmps66
  go_wp2_with (go_at_call 85; refine (zAP _ _).mono ?_; rintro e w' ⟨rfl, q, rfl⟩)
  go_ret
  exact ⟨rfl, _, rfl⟩
theorem zCr (x y : Int) (h : x = y) (w : World) : Calls Tryz.prog 66 #[.int .i64 x, .int .i64 y] w fun e w' => e = .returned (.int .i64 0) ∧ ∃ q, w' = w.drewN q := by
  subst h
  go_enter Tryz.func66, Tryz.ntmps66
  go_wp2_with (go_at_call 85; refine (zAP _ _).mono ?_; rintro e w' ⟨rfl, q, rfl⟩)
  go_ret
  exact ⟨rfl, _, rfl⟩
theorem zCs (x y : Int) (h : y < x) (w : World) : Calls Tryz.prog 66 #[.int .i64 x, .int .i64 y] w fun e w' => e = .returned (.int .i64 1) ∧ ∃ q, w' = w.drewN q := by
  have h1 : ¬ x < y := by omega
  go_enter Tryz.func66, Tryz.ntmps66
  go_wp2_with (go_at_call 85; refine (zAP _ _).mono ?_; rintro e w' ⟨rfl, q, rfl⟩)
  go_ret
  exact ⟨rfl, _, rfl⟩
set_option maxRecDepth 100000 in
set_option maxHeartbeats 2000000 in
theorem zCW : zyf Tryz.prog 42 := by
  intro w u v xs ys hx hy hu hv
  obtain ⟨A, c, rfl, hA⟩ := hu
  obtain ⟨B, d, rfl, hB⟩ := hv
  by_cases hn : xs.length = 0
  · obtain rfl : xs = [] := List.eq_nil_of_length_eq_zero hn
    clear hA hB hn hx
    by_cases hm : ys.length = 0
    · obtain rfl : ys = [] := List.eq_nil_of_length_eq_zero hm
      go_enter Tryz.func42, Tryz.ntmps42
      go_wp2
      refine wp_loop_rounds 1 ?_
      rw [rounds_succ]
      go_wp2
      go_ret
      exact ⟨rfl, 0, rfl⟩
    · have hl : lexI [] ys = -1 := by
        cases ys with
        | nil => exact absurd rfl hm
        | cons => rfl
      have h0 : (0 : Int) < (ys.length : Int) := by omega
      go_enter Tryz.func42, Tryz.ntmps42
      go_wp2
      refine wp_loop_rounds 1 ?_
      rw [rounds_succ]
      go_wp2
      go_ret
      exact ⟨by rw [hl]; rfl, 0, rfl⟩
  · obtain ⟨b1, o1, rfl, hc1⟩ := hA (by omega)
    have h0 : (0 : Int) < (xs.length : Int) := by omega
    have hc1' : ∀ k, k < xs.length → w.cell? ⟨b1, o1 + k, none⟩ = some (.int .i64 xs[k]!) := fun k hk => by rw [getElem!_pos xs k hk]; exact hc1 k hk
    clear hA hc1
    by_cases hm : ys.length = 0
    · obtain rfl : ys = [] := List.eq_nil_of_length_eq_zero hm
      have hl : lexI xs [] = 1 := by
        cases xs with
        | nil => exact absurd rfl hn
        | cons => rfl
      have g1 : w.cell? ⟨b1, o1, none⟩ = some (.int .i64 xs[0]!) := hc1' 0 (by omega)
      generalize xs[0]! = x at g1
      clear hB hm hc1'
      go_enter Tryz.func42, Tryz.ntmps42
      go_wp2
      refine wp_loop_rounds 1 ?_
      rw [rounds_succ]
      go_wp2
      go_ret
      exact ⟨by rw [hl]; rfl, 0, rfl⟩
    · obtain ⟨b2, o2, rfl, hc2⟩ := hB (by omega)
      have hc2' : ∀ k, k < ys.length → w.cell? ⟨b2, o2 + k, none⟩ = some (.int .i64 ys[k]!) := fun k hk => by rw [getElem!_pos ys k hk]; exact hc2 k hk
      clear hB hc2
      go_enter Tryz.func42, Tryz.ntmps42
      go_wp2
      go_loopg [11] xs.length (fun g s11 wr => ∃ k q : Nat, k ≤ xs.length ∧ k ≤ ys.length ∧ xs.length - k ≤ g ∧ s11 = .int .i64 k ∧ wr = w.drewN q ∧ Aside (xs.take k = ys.take k))
      case atStart => exact ⟨0, 0, Nat.zero_le _, Nat.zero_le _, by omega, rfl, rfl, rfl⟩
      case round =>
        obtain ⟨k, q, hkx, hky, hg, rfl, rfl, A⟩ := hrel
        by_cases hlt : k < xs.length
        · by_cases hlt2 : k < ys.length
          · have g1 : w.cell? ⟨b1, o1 + k, none⟩ = some (.int .i64 xs[k]!) := hc1' k hlt
            have g2 : w.cell? ⟨b2, o2 + k, none⟩ = some (.int .i64 ys[k]!) := hc2' k hlt2
            have hl : Aside (lexI xs ys = if xs[k]! < ys[k]! then -1 else if ys[k]! < xs[k]! then 1 else lexI (xs.drop (k + 1)) (ys.drop (k + 1))) := by
              show lexI xs ys = _
              rw [zoh A.out hkx hky, List.drop_eq_getElem_cons hlt, List.drop_eq_getElem_cons hlt2, lexI, getElem!_pos xs k hlt, getElem!_pos ys k hlt2]
            have ht : Aside (xs[k]! = ys[k]! → xs.take (k + 1) = ys.take (k + 1)) := fun e => by
              rw [getElem!_pos xs k hlt, getElem!_pos ys k hlt2] at e
              rw [List.take_succ_eq_append_getElem hlt, List.take_succ_eq_append_getElem hlt2, A.out, e]
            clear hc1' hc2'
            generalize xs[k]! = x at g1 hl ht
            generalize ys[k]! = y at g2 hl ht
            have hlz : (k : Int) < (xs.length : Int) := by omega
            have hlz2 : ¬ ((k : Int) ≥ (ys.length : Int)) := by omega
            rcases Int.lt_trichotomy x y with h | h | h
            · have hv : Aside (lexI xs ys = -1) := by rw [hl.out, if_pos h]; rfl
              clear hl ht
              have hcal := zCt x y h
              go_wp2_with (go_at_call 66; refine (hcal _).mono ?_; rintro e w' ⟨rfl, q', rfl⟩)
              go_ret
              exact ⟨by rw [hv.out]; rfl, q + q', rfl⟩
            · subst h
              have hcal := zCr x x rfl
              have hv := ht.out rfl
              clear hl ht
              have hv : Aside (xs.take (k + 1) = ys.take (k + 1)) := hv
              go_wp2_with (go_at_call 66; refine (hcal _).mono ?_; rintro e w' ⟨rfl, q', rfl⟩)
              go_roundg (xs.length - (k + 1))
              case measure => omega
              case rel => exact ⟨k + 1, q + q', by omega, by omega, by omega, by go_num, rfl, hv⟩
            · have hv : Aside (lexI xs ys = 1) := by rw [hl.out, if_neg (by omega), if_pos h]; rfl
              clear hl ht
              have hcal := zCs x y h
              go_wp2_with (go_at_call 66; refine (hcal _).mono ?_; rintro e w' ⟨rfl, q', rfl⟩)
              go_ret
              exact ⟨by rw [hv.out]; rfl, q + q', rfl⟩
          · have hky' : k = ys.length := by omega
            have hv : Aside (lexI xs ys = 1) := by
              show lexI xs ys = 1
              rw [zoh A.out hkx hky, List.drop_eq_getElem_cons hlt, List.drop_eq_nil_of_le (show ys.length ≤ k by omega)]
              rfl
            have g1 : w.cell? ⟨b1, o1 + k, none⟩ = some (.int .i64 xs[k]!) := hc1' k hlt
            generalize xs[k]! = x at g1
            have hlz : (k : Int) < (xs.length : Int) := by omega
            clear hc1' hc2' hkx hg A hlt2 hky
            subst hky'
            go_wp2
            go_ret
            exact ⟨by rw [hv.out]; rfl, q, rfl⟩
        · have hkx' : k = xs.length := by omega
          have hlz : ¬ (k : Int) < (xs.length : Int) := by omega
          clear hc1' hc2'
          by_cases hlt2 : xs.length < ys.length
          · have hv : Aside (lexI xs ys = -1) := by
              show lexI xs ys = -1
              rw [zoh A.out hkx hky, List.drop_eq_getElem_cons (show k < ys.length by omega), List.drop_eq_nil_of_le (show xs.length ≤ k by omega)]
              rfl
            have hlz2 : (xs.length : Int) < (ys.length : Int) := by omega
            go_wp2
            go_ret
            exact ⟨by rw [hv.out]; rfl, q, rfl⟩
          · have hv : Aside (lexI xs ys = 0) := by
              show lexI xs ys = 0
              rw [zoh A.out hkx hky, List.drop_eq_nil_of_le (show ys.length ≤ k by omega), List.drop_eq_nil_of_le (show xs.length ≤ k by omega)]
              rfl
            have hlz2 : ¬ (xs.length : Int) < (ys.length : Int) := by omega
            go_wp2
            go_ret
            exact ⟨by rw [hv.out]; rfl, q, rfl⟩
theorem zzD : SkOk Tryz.prog 111 110 3 := zCK zDd zDc (fun m => ⟨fun blk off cap ss W hH hblk hsz => callsIn_wide.2 (AnyM.slices_Sort_int zCo blk off cap ss W hH hblk hsz), fun p cap W => callsIn_wide.2 (AnyM.slices_Sort_int_none zCo p cap W)⟩) (enters_of Tryz.func134 (by kernel_rfl) rfl) (enters_of Tryz.func135 (by kernel_rfl) rfl) rfl rfl
end Go.Proofs.YtglkepeofhonlaaGreatDoor
