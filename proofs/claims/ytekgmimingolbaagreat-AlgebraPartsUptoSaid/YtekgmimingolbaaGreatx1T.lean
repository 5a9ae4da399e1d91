/-
  Facts on the types of the program. No condition.
-/
import Derived.KernelRfl
import Derived.Test.YtekgmimingolbaaGreatx1K2
import Derived.Test.YtekgmimingolbaaGreatProg
import Derived.Test.YtekgmimingolbaaGreatx1S1
namespace Go.Proofs.YtekgmimingolbaaGreat
open Go Go.RowKit
set_option linter.unusedVariables false
theorem zbq:Tryz.prog.follows .mixedOrders=true:=by kernel_rfl
theorem ziM:ZeT Tryz.prog 23 82 zh 40 ((⟨[],[]⟩:zg):zg):=ZeT.ofB Tryz.underlying23 (by kernel_rfl)
theorem zkj:ZeT Tryz.prog 24 57 za 80 ((⟨0,[],[],[]⟩:zb):zb):=ZeT.ofB Tryz.underlying24 (by kernel_rfl)
theorem zjA:ZeT Tryz.prog 25 9 Rp.str 16 ([]:Str):=ZeT.ofB Tryz.underlying25 (by kernel_rfl)
theorem zlF:ZeT Tryz.prog 31 59 za 80 ((⟨0,[],[],[]⟩:zb):zb):=ZeT.ofB Tryz.underlying31 (by kernel_rfl)
theorem ztB:ZeT Tryz.prog 40 33 zd 48 ((⟨[],[]⟩:zc):zc):=ZeT.ofB Tryz.underlying40 (by kernel_rfl)
theorem zcY:ZeT Tryz.prog 45 53 (Rp.list (Rp.int .i64)) 24 ([]:(List Int)):=ZeT.ofB Tryz.underlying45 (by kernel_rfl)
theorem zhz:ZeT Tryz.prog 53 3 (Rp.int .i64) 8 (0:Int):=ZeT.ofB Tryz.underlying53 (by kernel_rfl)
theorem zpz:ZeT Tryz.prog 54 83 (Rp.int .u64) 8 (0:Int):=ZeT.ofB Tryz.underlying54 (by kernel_rfl)
theorem zkk:ZeT Tryz.prog 55 27 zd 48 ((⟨[],[]⟩:zc):zc):=ZeT.ofB Tryz.underlying55 (by kernel_rfl)
theorem zoF:ZeT Tryz.prog 80 65 zf 48 ((⟨[],0,0,false,false,0⟩:ze):ze):=ZeT.ofB Tryz.underlying80 (by kernel_rfl)
theorem zir:ZeT Tryz.prog 114 5 Rp.byte 1 (0:UInt8):=ZeT.ofB Tryz.underlying114 (by kernel_rfl)
theorem zzE:ZeT Tryz.prog 171 25 (Rp.list Rp.str) 24 ([]:(List Str)):=ZeT.ofB Tryz.underlying171 (by kernel_rfl)
theorem zCJ:ZeT Tryz.prog 209 54 (Rp.list (Rp.int .u64)) 24 ([]:(List Int)):=ZeT.ofB Tryz.underlying209 (by kernel_rfl)
theorem zCK:ZeT Tryz.prog 211 55 (Rp.list zd) 24 ([]:(List zc)):=ZeT.ofB Tryz.underlying211 (by kernel_rfl)
theorem zJP:StT Tryz.prog 65 [(0,1),(1,1),(2,1),(3,1),(4,1),(5,1)] [.str [],.int .i64 0,.int .i64 0,.bool false,.bool false,.int .i64 0]:=StT.ofB Tryz.underlying65 (by kernel_rfl)
theorem zsu:StT Tryz.prog 133 [(0,1),(1,1),(2,1),(3,1),(4,1)] [.int .i64 0,.int .i64 0,.int .i64 0,.int .i64 0,.int .i64 0]:=StT.ofB Tryz.underlying133 (by kernel_rfl)
theorem zzu:StT Tryz.prog 159 [(0,1),(1,1),(2,1)] [.int .i64 0,.int .i64 0,.int .i64 0]:=StT.ofB Tryz.underlying159 (by kernel_rfl)
theorem zzv:StT Tryz.prog 191 [(0,1),(1,1),(2,1),(3,1),(4,1)] [.int .i64 0,.int .i64 0,.int .i64 0,.int .i64 0,.int .i64 0]:=StT.ofB Tryz.underlying191 (by kernel_rfl)
theorem zCB:StT Tryz.prog 224 [(0,1),(1,1)] [.int .i64 0,.int .i64 0]:=StT.ofB Tryz.underlying224 (by kernel_rfl)
theorem ziH:StT Tryz.prog 242 [(0,1),(1,1)] [.str [],.int .i64 0]:=StT.ofB Tryz.underlying242 (by kernel_rfl)
theorem zGO:StT Tryz.prog 245 [(0,1),(1,1)] [.int .i64 0,.str []]:=StT.ofB Tryz.underlying245 (by kernel_rfl)
theorem zJd:StT Tryz.prog 247 [(0,1),(1,1)] [.int .i64 0,.int .i64 0]:=StT.ofB Tryz.underlying247 (by kernel_rfl)
theorem zEX:ArT Tryz.prog 156 3 2 [.int .i64 0,.int .i64 0]:=ArT.ofB Tryz.underlying156 Tryz.sizeOf3 (by kernel_rfl)
theorem zwQ:StA Tryz.prog 27 [(0,1),(1,1)] [kN,kN]:=StA.ofB Tryz.underlying27 (by kernel_rfl)
theorem zDD:StA Tryz.prog 33 [(0,1),(1,1)] [kN,kN]:=StA.ofB Tryz.underlying33 (by kernel_rfl)
theorem zDE:StA Tryz.prog 49 [(0,1)] [kN]:=StA.ofB Tryz.underlying49 (by kernel_rfl)
theorem zDF:StA Tryz.prog 57 [(0,1),(1,1),(2,1),(3,1)] [kI 0,kN,kN,kN]:=StA.ofB Tryz.underlying57 (by kernel_rfl)
theorem zIr:StA Tryz.prog 59 [(0,1),(1,1),(2,1),(3,1)] [kI 0,kN,kN,kN]:=StA.ofB Tryz.underlying59 (by kernel_rfl)
theorem zJO:StA Tryz.prog 82 [(0,1),(1,1)] [kS [],kN]:=StA.ofB Tryz.underlying82 (by kernel_rfl)
theorem zJb:StA Tryz.prog 204 [(0,1),(1,1),(2,1),(3,1)] [kI 0,kN,.lf (.val (.map none)),.lf (.val (.map none))]:=StA.ofB Tryz.underlying204 (by kernel_rfl)
theorem zsV:MapT Tryz.prog 105 3 57 (Rp.int .i64) za ((⟨0,[],[],[]⟩:zb):zb):=MapT.ofB Tryz.underlying105 (zvX Tryz.underlying3) (by kernel_rfl)
theorem zrk:MapT Tryz.prog 118 156 3 zaL (Rp.int .i64) (0:Int):=MapT.ofB Tryz.underlying118 (zFR (r:=zaL) Tryz.underlying156 Tryz.sizeOf3 (by kernel_rfl) (by kernel_rfl) rfl rfl (fun _=>by kernel_rfl) (fun a b=>by cases a;cases b;simp [zaL,eqL,leq,Bool.decide_and,Bool.beq_eq_decide_eq])) (by kernel_rfl)
theorem zze:MapT Tryz.prog 179 3 45 (Rp.int .i64) (Rp.list (Rp.list (Rp.int .i64))) ([]:(List (List Int))):=MapT.ofB Tryz.underlying179 (zvX Tryz.underlying3) (by kernel_rfl)
theorem zve:MapT Tryz.prog 201 245 4 zp Rp.bool (false:Bool):=MapT.ofB Tryz.underlying201 (zxT Tryz.underlying245 (by kernel_rfl) rfl (fun _=>by kernel_rfl) (fun a b=>by cases a;cases b;simp [zp,eqL,leq,Bool.decide_and,Bool.beq_eq_decide_eq])) (by kernel_rfl)
theorem zDs:MapT Tryz.prog 202 247 4 zo Rp.bool (false:Bool):=MapT.ofB Tryz.underlying202 (zxT Tryz.underlying247 (by kernel_rfl) rfl (fun _=>by kernel_rfl) (fun a b=>by cases a;cases b;simp [zo,eqL,leq,Bool.decide_and,Bool.beq_eq_decide_eq])) (by kernel_rfl)
theorem zgu:MapT Tryz.prog 240 3 242 (Rp.int .i64) zA ((⟨[],0⟩:zv):zv):=MapT.ofB Tryz.underlying240 (zvX Tryz.underlying3) (by kernel_rfl)
end Go.Proofs.YtekgmimingolbaaGreat
