/-
  Facts on the types of the program. No condition.
-/
import Derived.KernelRfl
import Derived.Test.YtcbkcblkecmjnaaGreatx3K2
import Derived.Test.YtcbkcblkecmjnaaGreatProg
import Derived.Test.YtcbkcblkecmjnaaGreatx3S1
namespace Go.Proofs.YtcbkcblkecmjnaaGreat
open Go Go.RowKit
set_option linter.unusedVariables false
theorem zcp:Tryz.prog.follows .mixedOrders=true:=by kernel_rfl
theorem zge:ZeT Tryz.prog 23 73 zi 40 ((⟨[],[]⟩:zg):zg):=ZeT.ofB Tryz.underlying23 (by kernel_rfl)
theorem zdD:ZeT Tryz.prog 24 5 Rp.byte 1 (0:UInt8):=ZeT.ofB Tryz.underlying24 (by kernel_rfl)
theorem zpF:ZeT Tryz.prog 27 50 zd 80 ((⟨0,[],[],[]⟩:zc):zc):=ZeT.ofB Tryz.underlying27 (by kernel_rfl)
theorem zkk:ZeT Tryz.prog 28 9 Rp.str 16 ([]:Str):=ZeT.ofB Tryz.underlying28 (by kernel_rfl)
theorem zpG:ZeT Tryz.prog 37 56 zd 80 ((⟨0,[],[],[]⟩:zc):zc):=ZeT.ofB Tryz.underlying37 (by kernel_rfl)
theorem zob:ZeT Tryz.prog 47 75 (Rp.int .u64) 8 (0:Int):=ZeT.ofB Tryz.underlying47 (by kernel_rfl)
theorem zuI:ZeT Tryz.prog 48 30 zj 48 ((⟨[],[]⟩:zf):zf):=ZeT.ofB Tryz.underlying48 (by kernel_rfl)
theorem zDf:ZeT Tryz.prog 54 39 zj 48 ((⟨[],[]⟩:zf):zf):=ZeT.ofB Tryz.underlying54 (by kernel_rfl)
theorem ziJ:ZeT Tryz.prog 71 64 zb 48 ((⟨[],0,0,false,false,0⟩:za):za):=ZeT.ofB Tryz.underlying71 (by kernel_rfl)
theorem zzX:ZeT Tryz.prog 82 3 (Rp.int .i64) 8 (0:Int):=ZeT.ofB Tryz.underlying82 (by kernel_rfl)
theorem zkO:ZeT Tryz.prog 107 113 zh 56 ((⟨(⟨0,0,0,0,0⟩:zq),0,false⟩:ze):ze):=ZeT.ofB Tryz.underlying107 (by kernel_rfl)
theorem zqD:ZeT Tryz.prog 192 24 (Rp.list Rp.byte) 24 ([]:(List UInt8)):=ZeT.ofB Tryz.underlying192 (by kernel_rfl)
theorem zhl:zh.Plain:=fun x=>by simp [zh,LV.plain]
theorem zFW:StT Tryz.prog 64 [(0,1),(1,1),(2,1),(3,1),(4,1),(5,1)] [.str [],.int .i64 0,.int .i64 0,.bool false,.bool false,.int .i64 0]:=StT.ofB Tryz.underlying64 (by kernel_rfl)
theorem zsT:StT Tryz.prog 85 [(0,1),(1,1),(2,1),(3,1),(4,1)] [.int .i64 0,.int .i64 0,.int .i64 0,.int .i64 0,.int .i64 0]:=StT.ofB Tryz.underlying85 (by kernel_rfl)
theorem zqp:StT Tryz.prog 105 [(0,1),(1,1),(2,1)] [.int .i64 0,.int .i64 0,.int .u8 0]:=StT.ofB Tryz.underlying105 (by kernel_rfl)
theorem zvU:StT Tryz.prog 111 [(0,1),(1,1),(2,1),(3,1),(4,1)] [.int .i64 0,.int .i64 0,.int .i64 0,.int .i64 0,.int .i64 0]:=StT.ofB Tryz.underlying111 (by kernel_rfl)
theorem zsS:StT Tryz.prog 113 [(0,5),(5,1),(6,1)] [.int .i64 0,.int .i64 0,.int .i64 0,.int .i64 0,.int .i64 0,.int .i64 0,.bool false]:=StT.ofB Tryz.underlying113 (by kernel_rfl)
theorem zvV:StT Tryz.prog 142 [(0,1),(1,1),(2,1)] [.int .i64 0,.int .i64 0,.int .i64 0]:=StT.ofB Tryz.underlying142 (by kernel_rfl)
theorem zFk:StT Tryz.prog 183 [(0,1),(1,1)] [.int .i64 0,.int .i64 0]:=StT.ofB Tryz.underlying183 (by kernel_rfl)
theorem zyM:StT Tryz.prog 185 [(0,1),(1,1),(2,1)] [.int .i64 0,.bool false,.int .u8 0]:=StT.ofB Tryz.underlying185 (by kernel_rfl)
theorem zyN:StT Tryz.prog 198 [(0,1),(1,1)] [.int .i64 0,.int .i64 0]:=StT.ofB Tryz.underlying198 (by kernel_rfl)
theorem zfY:StT Tryz.prog 206 [(0,1),(1,1)] [.str [],.int .i64 0]:=StT.ofB Tryz.underlying206 (by kernel_rfl)
theorem zCJ:StT Tryz.prog 209 [(0,1),(1,1)] [.int .i64 0,.str []]:=StT.ofB Tryz.underlying209 (by kernel_rfl)
theorem zFl:StT Tryz.prog 211 [(0,1),(1,1)] [.int .i64 0,.int .i64 0]:=StT.ofB Tryz.underlying211 (by kernel_rfl)
theorem zFm:StT Tryz.prog 221 [(0,1),(1,1),(2,1)] [.int .i64 0,.int .i64 0,.int .i64 0]:=StT.ofB Tryz.underlying221 (by kernel_rfl)
theorem zEA:StA Tryz.prog 30 [(0,1),(1,1)] [kN,kN]:=StA.ofB Tryz.underlying30 (by kernel_rfl)
theorem zFS:StA Tryz.prog 39 [(0,1),(1,1)] [kN,kN]:=StA.ofB Tryz.underlying39 (by kernel_rfl)
theorem zFT:StA Tryz.prog 50 [(0,1),(1,1),(2,1),(3,1)] [kI 0,kN,kN,kN]:=StA.ofB Tryz.underlying50 (by kernel_rfl)
theorem zFU:StA Tryz.prog 56 [(0,1),(1,1),(2,1),(3,1)] [kI 0,kN,kN,kN]:=StA.ofB Tryz.underlying56 (by kernel_rfl)
theorem zFV:StA Tryz.prog 73 [(0,1),(1,1)] [kS [],kN]:=StA.ofB Tryz.underlying73 (by kernel_rfl)
theorem zFh:StA Tryz.prog 153 [(0,1),(1,1),(2,1)] [kN,kN,.lf (.val (.map none))]:=StA.ofB Tryz.underlying153 (by kernel_rfl)
theorem zFi:StA Tryz.prog 174 [(0,1),(1,1),(2,1),(3,1)] [kI 0,kN,.lf (.val (.map none)),.lf (.val (.map none))]:=StA.ofB Tryz.underlying174 (by kernel_rfl)
theorem zvz:MapT Tryz.prog 110 3 107 (Rp.int .i64) (Rp.list zh) ([]:(List ze)):=MapT.ofB Tryz.underlying110 (zwX Tryz.underlying3) (by kernel_rfl)
theorem zzy:MapT Tryz.prog 151 221 113 zk zh ((⟨(⟨0,0,0,0,0⟩:zq),0,false⟩:ze):ze):=MapT.ofB Tryz.underlying151 (znw Tryz.underlying221 (by kernel_rfl) rfl (fun _=>by kernel_rfl) (fun a b=>by cases a;cases b;simp [zk,eqL,leq,Bool.decide_and,Bool.beq_eq_decide_eq])) (by kernel_rfl)
theorem zzz:MapT Tryz.prog 155 183 185 zP zR ((⟨0,false,0⟩:zM):zM):=MapT.ofB Tryz.underlying155 (znw Tryz.underlying183 (by kernel_rfl) rfl (fun _=>by kernel_rfl) (fun a b=>by cases a;cases b;simp [zP,eqL,leq,Bool.decide_and,Bool.beq_eq_decide_eq])) (by kernel_rfl)
theorem zrv:MapT Tryz.prog 171 209 4 zu Rp.bool (false:Bool):=MapT.ofB Tryz.underlying171 (znw Tryz.underlying209 (by kernel_rfl) rfl (fun _=>by kernel_rfl) (fun a b=>by cases a;cases b;simp [zu,eqL,leq,Bool.decide_and,Bool.beq_eq_decide_eq])) (by kernel_rfl)
theorem zzA:MapT Tryz.prog 172 211 4 zt Rp.bool (false:Bool):=MapT.ofB Tryz.underlying172 (znw Tryz.underlying211 (by kernel_rfl) rfl (fun _=>by kernel_rfl) (fun a b=>by cases a;cases b;simp [zt,eqL,leq,Bool.decide_and,Bool.beq_eq_decide_eq])) (by kernel_rfl)
theorem zen:MapT Tryz.prog 204 3 206 (Rp.int .i64) zE ((⟨[],0⟩:zw):zw):=MapT.ofB Tryz.underlying204 (zwX Tryz.underlying3) (by kernel_rfl)
end Go.Proofs.YtcbkcblkecmjnaaGreat
