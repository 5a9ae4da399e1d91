/-
  Facts on the types of the program. No condition.
-/
import Derived.KernelRfl
import Derived.Test.YtcbkcblkecmjnaaGreatx4K2
import Derived.Test.YtcbkcblkecmjnaaGreatProg
import Derived.Test.YtcbkcblkecmjnaaGreatx4S1
namespace Go.Proofs.YtcbkcblkecmjnaaGreat
open Go Go.RowKit
set_option linter.unusedVariables false
theorem zdz:Tryz.prog.follows .mixedOrders=true:=by kernel_rfl
theorem zlP:ZeT Tryz.prog 23 73 zj 40 ((⟨[],[]⟩:zi):zi):=ZeT.ofB Tryz.underlying23 (by kernel_rfl)
theorem zeq:ZeT Tryz.prog 24 5 Rp.byte 1 (0:UInt8):=ZeT.ofB Tryz.underlying24 (by kernel_rfl)
theorem zja:ZeT Tryz.prog 27 50 za 80 ((⟨0,[],[],[]⟩:zb):zb):=ZeT.ofB Tryz.underlying27 (by kernel_rfl)
theorem zmB:ZeT Tryz.prog 28 9 Rp.str 16 ([]:Str):=ZeT.ofB Tryz.underlying28 (by kernel_rfl)
theorem zkN:ZeT Tryz.prog 47 75 (Rp.int .u64) 8 (0:Int):=ZeT.ofB Tryz.underlying47 (by kernel_rfl)
theorem zmC:ZeT Tryz.prog 48 30 zf 48 ((⟨[],[]⟩:ze):ze):=ZeT.ofB Tryz.underlying48 (by kernel_rfl)
theorem zmD:ZeT Tryz.prog 71 64 zd 48 ((⟨[],0,0,false,false,0⟩:zc):zc):=ZeT.ofB Tryz.underlying71 (by kernel_rfl)
theorem zDQ:ZeT Tryz.prog 82 3 (Rp.int .i64) 8 (0:Int):=ZeT.ofB Tryz.underlying82 (by kernel_rfl)
theorem zjo:ZeT Tryz.prog 107 113 zh 56 ((⟨(⟨0,0,0,0,0⟩:zx),0,false⟩:zg):zg):=ZeT.ofB Tryz.underlying107 (by kernel_rfl)
theorem zps:ZeT Tryz.prog 192 24 (Rp.list Rp.byte) 24 ([]:(List UInt8)):=ZeT.ofB Tryz.underlying192 (by kernel_rfl)
theorem zgr:zh.Plain:=fun x=>by simp [zh,LV.plain]
theorem zEW:StT Tryz.prog 64 [(0,1),(1,1),(2,1),(3,1),(4,1),(5,1)] [.str [],.int .i64 0,.int .i64 0,.bool false,.bool false,.int .i64 0]:=StT.ofB Tryz.underlying64 (by kernel_rfl)
theorem zpe:StT Tryz.prog 105 [(0,1),(1,1),(2,1)] [.int .i64 0,.int .i64 0,.int .u8 0]:=StT.ofB Tryz.underlying105 (by kernel_rfl)
theorem zuN:StT Tryz.prog 111 [(0,1),(1,1),(2,1),(3,1),(4,1)] [.int .i64 0,.int .i64 0,.int .i64 0,.int .i64 0,.int .i64 0]:=StT.ofB Tryz.underlying111 (by kernel_rfl)
theorem zrS:StT Tryz.prog 113 [(0,5),(5,1),(6,1)] [.int .i64 0,.int .i64 0,.int .i64 0,.int .i64 0,.int .i64 0,.int .i64 0,.bool false]:=StT.ofB Tryz.underlying113 (by kernel_rfl)
theorem zuO:StT Tryz.prog 142 [(0,1),(1,1),(2,1)] [.int .i64 0,.int .i64 0,.int .i64 0]:=StT.ofB Tryz.underlying142 (by kernel_rfl)
theorem zEw:StT Tryz.prog 183 [(0,1),(1,1)] [.int .i64 0,.int .i64 0]:=StT.ofB Tryz.underlying183 (by kernel_rfl)
theorem zxK:StT Tryz.prog 185 [(0,1),(1,1),(2,1)] [.int .i64 0,.bool false,.int .u8 0]:=StT.ofB Tryz.underlying185 (by kernel_rfl)
theorem zxL:StT Tryz.prog 198 [(0,1),(1,1)] [.int .i64 0,.int .i64 0]:=StT.ofB Tryz.underlying198 (by kernel_rfl)
theorem zfd:StT Tryz.prog 206 [(0,1),(1,1)] [.str [],.int .i64 0]:=StT.ofB Tryz.underlying206 (by kernel_rfl)
theorem zCb:StT Tryz.prog 209 [(0,1),(1,1)] [.int .i64 0,.str []]:=StT.ofB Tryz.underlying209 (by kernel_rfl)
theorem zEx:StT Tryz.prog 211 [(0,1),(1,1)] [.int .i64 0,.int .i64 0]:=StT.ofB Tryz.underlying211 (by kernel_rfl)
theorem zEy:StT Tryz.prog 221 [(0,1),(1,1),(2,1)] [.int .i64 0,.int .i64 0,.int .i64 0]:=StT.ofB Tryz.underlying221 (by kernel_rfl)
theorem zBX:StA Tryz.prog 30 [(0,1),(1,1)] [kN,kN]:=StA.ofB Tryz.underlying30 (by kernel_rfl)
theorem zDN:StA Tryz.prog 50 [(0,1),(1,1),(2,1),(3,1)] [kI 0,kN,kN,kN]:=StA.ofB Tryz.underlying50 (by kernel_rfl)
theorem zEV:StA Tryz.prog 73 [(0,1),(1,1)] [kS [],kN]:=StA.ofB Tryz.underlying73 (by kernel_rfl)
theorem zEr:StA Tryz.prog 153 [(0,1),(1,1),(2,1)] [kN,kN,.lf (.val (.map none))]:=StA.ofB Tryz.underlying153 (by kernel_rfl)
theorem zEs:StA Tryz.prog 174 [(0,1),(1,1),(2,1),(3,1)] [kI 0,kN,.lf (.val (.map none)),.lf (.val (.map none))]:=StA.ofB Tryz.underlying174 (by kernel_rfl)
theorem zuw:MapT Tryz.prog 110 3 107 (Rp.int .i64) (Rp.list zh) ([]:(List zg)):=MapT.ofB Tryz.underlying110 (zvQ Tryz.underlying3) (by kernel_rfl)
theorem zyC:MapT Tryz.prog 151 221 113 zk zh ((⟨(⟨0,0,0,0,0⟩:zx),0,false⟩:zg):zg):=MapT.ofB Tryz.underlying151 (zlW Tryz.underlying221 (by kernel_rfl) rfl (fun _=>by kernel_rfl) (fun a b=>by cases a;cases b;simp [zk,eqL,leq,Bool.decide_and,Bool.beq_eq_decide_eq])) (by kernel_rfl)
theorem zyD:MapT Tryz.prog 155 183 185 zT zV ((⟨0,false,0⟩:zQ):zQ):=MapT.ofB Tryz.underlying155 (zlW Tryz.underlying183 (by kernel_rfl) rfl (fun _=>by kernel_rfl) (fun a b=>by cases a;cases b;simp [zT,eqL,leq,Bool.decide_and,Bool.beq_eq_decide_eq])) (by kernel_rfl)
theorem zqm:MapT Tryz.prog 171 209 4 zr Rp.bool (false:Bool):=MapT.ofB Tryz.underlying171 (zlW Tryz.underlying209 (by kernel_rfl) rfl (fun _=>by kernel_rfl) (fun a b=>by cases a;cases b;simp [zr,eqL,leq,Bool.decide_and,Bool.beq_eq_decide_eq])) (by kernel_rfl)
theorem zyE:MapT Tryz.prog 172 211 4 zq Rp.bool (false:Bool):=MapT.ofB Tryz.underlying172 (zlW Tryz.underlying211 (by kernel_rfl) rfl (fun _=>by kernel_rfl) (fun a b=>by cases a;cases b;simp [zq,eqL,leq,Bool.decide_and,Bool.beq_eq_decide_eq])) (by kernel_rfl)
theorem zdy:MapT Tryz.prog 204 3 206 (Rp.int .i64) zC ((⟨[],0⟩:zw):zw):=MapT.ofB Tryz.underlying204 (zvQ Tryz.underlying3) (by kernel_rfl)
end Go.Proofs.YtcbkcblkecmjnaaGreat
