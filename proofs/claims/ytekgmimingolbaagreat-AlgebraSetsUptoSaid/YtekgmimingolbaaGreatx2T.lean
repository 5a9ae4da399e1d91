/-
  Facts on the types of the program. No condition.
-/
import Derived.KernelRfl
import Derived.Test.YtekgmimingolbaaGreatx2K2
import Derived.Test.YtekgmimingolbaaGreatProg
import Derived.Test.YtekgmimingolbaaGreatx2S1
namespace Go.Proofs.YtekgmimingolbaaGreat
open Go Go.RowKit
set_option linter.unusedVariables false
theorem zaU:Tryz.prog.follows .mixedOrders=true:=by kernel_rfl
theorem zhT:ZeT Tryz.prog 23 82 zh 40 ((⟨[],[]⟩:zg):zg):=ZeT.ofB Tryz.underlying23 (by kernel_rfl)
theorem zjx:ZeT Tryz.prog 24 57 za 80 ((⟨0,[],[],[]⟩:zb):zb):=ZeT.ofB Tryz.underlying24 (by kernel_rfl)
theorem zgI:ZeT Tryz.prog 25 9 Rp.str 16 ([]:Str):=ZeT.ofB Tryz.underlying25 (by kernel_rfl)
theorem zjy:ZeT Tryz.prog 31 59 za 80 ((⟨0,[],[],[]⟩:zb):zb):=ZeT.ofB Tryz.underlying31 (by kernel_rfl)
theorem ztG:ZeT Tryz.prog 40 33 zc 48 ((⟨[],[]⟩:zd):zd):=ZeT.ofB Tryz.underlying40 (by kernel_rfl)
theorem zmP:ZeT Tryz.prog 45 53 (Rp.list (Rp.int .i64)) 24 ([]:(List Int)):=ZeT.ofB Tryz.underlying45 (by kernel_rfl)
theorem zgJ:ZeT Tryz.prog 53 3 (Rp.int .i64) 8 (0:Int):=ZeT.ofB Tryz.underlying53 (by kernel_rfl)
theorem zrf:ZeT Tryz.prog 54 83 (Rp.int .u64) 8 (0:Int):=ZeT.ofB Tryz.underlying54 (by kernel_rfl)
theorem zli:ZeT Tryz.prog 55 27 zc 48 ((⟨[],[]⟩:zd):zd):=ZeT.ofB Tryz.underlying55 (by kernel_rfl)
theorem zlP:ZeT Tryz.prog 80 65 zf 48 ((⟨[],0,0,false,false,0⟩:ze):ze):=ZeT.ofB Tryz.underlying80 (by kernel_rfl)
theorem zjr:ZeT Tryz.prog 114 5 Rp.byte 1 (0:UInt8):=ZeT.ofB Tryz.underlying114 (by kernel_rfl)
theorem zCx:ZeT Tryz.prog 171 25 (Rp.list Rp.str) 24 ([]:(List Str)):=ZeT.ofB Tryz.underlying171 (by kernel_rfl)
theorem zFS:ZeT Tryz.prog 209 54 (Rp.list (Rp.int .u64)) 24 ([]:(List Int)):=ZeT.ofB Tryz.underlying209 (by kernel_rfl)
theorem zFT:ZeT Tryz.prog 211 55 (Rp.list zc) 24 ([]:(List zd)):=ZeT.ofB Tryz.underlying211 (by kernel_rfl)
theorem ziX:zf.Plain:=fun x=>by simp [zf,LV.plain]
theorem zAY:StT Tryz.prog 65 [(0,1),(1,1),(2,1),(3,1),(4,1),(5,1)] [.str [],.int .i64 0,.int .i64 0,.bool false,.bool false,.int .i64 0]:=StT.ofB Tryz.underlying65 (by kernel_rfl)
theorem zup:StT Tryz.prog 133 [(0,1),(1,1),(2,1),(3,1),(4,1)] [.int .i64 0,.int .i64 0,.int .i64 0,.int .i64 0,.int .i64 0]:=StT.ofB Tryz.underlying133 (by kernel_rfl)
theorem zCk:StT Tryz.prog 159 [(0,1),(1,1),(2,1)] [.int .i64 0,.int .i64 0,.int .i64 0]:=StT.ofB Tryz.underlying159 (by kernel_rfl)
theorem zCl:StT Tryz.prog 191 [(0,1),(1,1),(2,1),(3,1),(4,1)] [.int .i64 0,.int .i64 0,.int .i64 0,.int .i64 0,.int .i64 0]:=StT.ofB Tryz.underlying191 (by kernel_rfl)
theorem zFL:StT Tryz.prog 224 [(0,1),(1,1)] [.int .i64 0,.int .i64 0]:=StT.ofB Tryz.underlying224 (by kernel_rfl)
theorem zjL:StT Tryz.prog 242 [(0,1),(1,1)] [.str [],.int .i64 0]:=StT.ofB Tryz.underlying242 (by kernel_rfl)
theorem zKv:StT Tryz.prog 245 [(0,1),(1,1)] [.int .i64 0,.str []]:=StT.ofB Tryz.underlying245 (by kernel_rfl)
theorem zME:StT Tryz.prog 247 [(0,1),(1,1)] [.int .i64 0,.int .i64 0]:=StT.ofB Tryz.underlying247 (by kernel_rfl)
theorem zIx:ArT Tryz.prog 156 3 2 [.int .i64 0,.int .i64 0]:=ArT.ofB Tryz.underlying156 Tryz.sizeOf3 (by kernel_rfl)
theorem zod:StA Tryz.prog 27 [(0,1),(1,1)] [kN,kN]:=StA.ofB Tryz.underlying27 (by kernel_rfl)
theorem zGV:StA Tryz.prog 33 [(0,1),(1,1)] [kN,kN]:=StA.ofB Tryz.underlying33 (by kernel_rfl)
theorem zKt:StA Tryz.prog 49 [(0,1)] [kN]:=StA.ofB Tryz.underlying49 (by kernel_rfl)
theorem zwR:StA Tryz.prog 57 [(0,1),(1,1),(2,1),(3,1)] [kI 0,kN,kN,kN]:=StA.ofB Tryz.underlying57 (by kernel_rfl)
theorem zGW:StA Tryz.prog 59 [(0,1),(1,1),(2,1),(3,1)] [kI 0,kN,kN,kN]:=StA.ofB Tryz.underlying59 (by kernel_rfl)
theorem zNt:StA Tryz.prog 82 [(0,1),(1,1)] [kS [],kN]:=StA.ofB Tryz.underlying82 (by kernel_rfl)
theorem zMC:StA Tryz.prog 204 [(0,1),(1,1),(2,1),(3,1)] [kI 0,kN,.lf (.val (.map none)),.lf (.val (.map none))]:=StA.ofB Tryz.underlying204 (by kernel_rfl)
theorem zmk:MapT Tryz.prog 105 3 57 (Rp.int .i64) za ((⟨0,[],[],[]⟩:zb):zb):=MapT.ofB Tryz.underlying105 (zyt Tryz.underlying3) (by kernel_rfl)
theorem ztb:MapT Tryz.prog 118 156 3 zbe (Rp.int .i64) (0:Int):=MapT.ofB Tryz.underlying118 (zJu (r:=zbe) Tryz.underlying156 Tryz.sizeOf3 (by kernel_rfl) (by kernel_rfl) rfl rfl (fun _=>by kernel_rfl) (fun a b=>by cases a;cases b;simp [zbe,eqL,leq,Bool.decide_and,Bool.beq_eq_decide_eq])) (by kernel_rfl)
theorem zBK:MapT Tryz.prog 179 3 45 (Rp.int .i64) (Rp.list (Rp.list (Rp.int .i64))) ([]:(List (List Int))):=MapT.ofB Tryz.underlying179 (zyt Tryz.underlying3) (by kernel_rfl)
theorem zxv:MapT Tryz.prog 201 245 4 zr Rp.bool (false:Bool):=MapT.ofB Tryz.underlying201 (zAx Tryz.underlying245 (by kernel_rfl) rfl (fun _=>by kernel_rfl) (fun a b=>by cases a;cases b;simp [zr,eqL,leq,Bool.decide_and,Bool.beq_eq_decide_eq])) (by kernel_rfl)
theorem zGH:MapT Tryz.prog 202 247 4 zq Rp.bool (false:Bool):=MapT.ofB Tryz.underlying202 (zAx Tryz.underlying247 (by kernel_rfl) rfl (fun _=>by kernel_rfl) (fun a b=>by cases a;cases b;simp [zq,eqL,leq,Bool.decide_and,Bool.beq_eq_decide_eq])) (by kernel_rfl)
theorem zhj:MapT Tryz.prog 240 3 242 (Rp.int .i64) zC ((⟨[],0⟩:zx):zx):=MapT.ofB Tryz.underlying240 (zyt Tryz.underlying3) (by kernel_rfl)
end Go.Proofs.YtekgmimingolbaaGreat
