/-
  Facts on the types of the program. No condition.
-/
import Derived.KernelRfl
import Derived.Test.YtcbkcblkecmjnaaGreatx1K2
import Derived.Test.YtcbkcblkecmjnaaGreatProg
import Derived.Test.YtcbkcblkecmjnaaGreatx1S1
namespace Go.Proofs.YtcbkcblkecmjnaaGreat
open Go Go.RowKit
set_option linter.unusedVariables false
theorem zcy:Tryz.prog.follows .mixedOrders=true:=by kernel_rfl
theorem zgu:ZeT Tryz.prog 23 73 zi 40 ((⟨[],[]⟩:zh):zh):=ZeT.ofB Tryz.underlying23 (by kernel_rfl)
theorem zcS:ZeT Tryz.prog 24 5 Rp.byte 1 (0:UInt8):=ZeT.ofB Tryz.underlying24 (by kernel_rfl)
theorem zve:ZeT Tryz.prog 27 50 zd 80 ((⟨0,[],[],[]⟩:zb):zb):=ZeT.ofB Tryz.underlying27 (by kernel_rfl)
theorem zkn:ZeT Tryz.prog 28 9 Rp.str 16 ([]:Str):=ZeT.ofB Tryz.underlying28 (by kernel_rfl)
theorem zrj:ZeT Tryz.prog 37 56 zd 80 ((⟨0,[],[],[]⟩:zb):zb):=ZeT.ofB Tryz.underlying37 (by kernel_rfl)
theorem zko:ZeT Tryz.prog 47 75 (Rp.int .u64) 8 (0:Int):=ZeT.ofB Tryz.underlying47 (by kernel_rfl)
theorem zAz:ZeT Tryz.prog 48 30 zj 48 ((⟨[],[]⟩:ze):ze):=ZeT.ofB Tryz.underlying48 (by kernel_rfl)
theorem zrk:ZeT Tryz.prog 54 39 zj 48 ((⟨[],[]⟩:ze):ze):=ZeT.ofB Tryz.underlying54 (by kernel_rfl)
theorem ziD:ZeT Tryz.prog 71 64 za 48 ((⟨[],0,0,false,false,0⟩:zc):zc):=ZeT.ofB Tryz.underlying71 (by kernel_rfl)
theorem zpP:ZeT Tryz.prog 79 87 zJ 56 ((⟨(⟨0,0,0,0,0⟩:zo),0,false⟩:zG):zG):=ZeT.ofB Tryz.underlying79 (by kernel_rfl)
theorem zhD:ZeT Tryz.prog 82 3 (Rp.int .i64) 8 (0:Int):=ZeT.ofB Tryz.underlying82 (by kernel_rfl)
theorem zkN:ZeT Tryz.prog 107 113 zg 56 ((⟨(⟨0,0,0,0,0⟩:zo),0,false⟩:zf):zf):=ZeT.ofB Tryz.underlying107 (by kernel_rfl)
theorem zqN:ZeT Tryz.prog 192 24 (Rp.list Rp.byte) 24 ([]:(List UInt8)):=ZeT.ofB Tryz.underlying192 (by kernel_rfl)
theorem zpn:zJ.Plain:=fun x=>by simp [zJ,LV.plain]
theorem zhp:zg.Plain:=fun x=>by simp [zg,LV.plain]
theorem zGx:StT Tryz.prog 64 [(0,1),(1,1),(2,1),(3,1),(4,1),(5,1)] [.str [],.int .i64 0,.int .i64 0,.bool false,.bool false,.int .i64 0]:=StT.ofB Tryz.underlying64 (by kernel_rfl)
theorem zto:StT Tryz.prog 85 [(0,1),(1,1),(2,1),(3,1),(4,1)] [.int .i64 0,.int .i64 0,.int .i64 0,.int .i64 0,.int .i64 0]:=StT.ofB Tryz.underlying85 (by kernel_rfl)
theorem zxX:StT Tryz.prog 87 [(0,5),(5,1),(6,1)] [.int .i64 0,.int .i64 0,.int .i64 0,.int .i64 0,.int .i64 0,.int .i64 0,.bool false]:=StT.ofB Tryz.underlying87 (by kernel_rfl)
theorem zqA:StT Tryz.prog 105 [(0,1),(1,1),(2,1)] [.int .i64 0,.int .i64 0,.int .u8 0]:=StT.ofB Tryz.underlying105 (by kernel_rfl)
theorem zwn:StT Tryz.prog 111 [(0,1),(1,1),(2,1),(3,1),(4,1)] [.int .i64 0,.int .i64 0,.int .i64 0,.int .i64 0,.int .i64 0]:=StT.ofB Tryz.underlying111 (by kernel_rfl)
theorem ztn:StT Tryz.prog 113 [(0,5),(5,1),(6,1)] [.int .i64 0,.int .i64 0,.int .i64 0,.int .i64 0,.int .i64 0,.int .i64 0,.bool false]:=StT.ofB Tryz.underlying113 (by kernel_rfl)
theorem zwo:StT Tryz.prog 142 [(0,1),(1,1),(2,1)] [.int .i64 0,.int .i64 0,.int .i64 0]:=StT.ofB Tryz.underlying142 (by kernel_rfl)
theorem zFU:StT Tryz.prog 183 [(0,1),(1,1)] [.int .i64 0,.int .i64 0]:=StT.ofB Tryz.underlying183 (by kernel_rfl)
theorem zzn:StT Tryz.prog 185 [(0,1),(1,1),(2,1)] [.int .i64 0,.bool false,.int .u8 0]:=StT.ofB Tryz.underlying185 (by kernel_rfl)
theorem zzo:StT Tryz.prog 198 [(0,1),(1,1)] [.int .i64 0,.int .i64 0]:=StT.ofB Tryz.underlying198 (by kernel_rfl)
theorem zgq:StT Tryz.prog 206 [(0,1),(1,1)] [.str [],.int .i64 0]:=StT.ofB Tryz.underlying206 (by kernel_rfl)
theorem zDv:StT Tryz.prog 209 [(0,1),(1,1)] [.int .i64 0,.str []]:=StT.ofB Tryz.underlying209 (by kernel_rfl)
theorem zFV:StT Tryz.prog 211 [(0,1),(1,1)] [.int .i64 0,.int .i64 0]:=StT.ofB Tryz.underlying211 (by kernel_rfl)
theorem zFW:StT Tryz.prog 221 [(0,1),(1,1),(2,1)] [.int .i64 0,.int .i64 0,.int .i64 0]:=StT.ofB Tryz.underlying221 (by kernel_rfl)
theorem zGu:StA Tryz.prog 30 [(0,1),(1,1)] [kN,kN]:=StA.ofB Tryz.underlying30 (by kernel_rfl)
theorem zFj:StA Tryz.prog 39 [(0,1),(1,1)] [kN,kN]:=StA.ofB Tryz.underlying39 (by kernel_rfl)
theorem zGv:StA Tryz.prog 50 [(0,1),(1,1),(2,1),(3,1)] [kI 0,kN,kN,kN]:=StA.ofB Tryz.underlying50 (by kernel_rfl)
theorem zFk:StA Tryz.prog 56 [(0,1),(1,1),(2,1),(3,1)] [kI 0,kN,kN,kN]:=StA.ofB Tryz.underlying56 (by kernel_rfl)
theorem zGw:StA Tryz.prog 73 [(0,1),(1,1)] [kS [],kN]:=StA.ofB Tryz.underlying73 (by kernel_rfl)
theorem zFQ:StA Tryz.prog 153 [(0,1),(1,1),(2,1)] [kN,kN,.lf (.val (.map none))]:=StA.ofB Tryz.underlying153 (by kernel_rfl)
theorem zFR:StA Tryz.prog 174 [(0,1),(1,1),(2,1),(3,1)] [kI 0,kN,.lf (.val (.map none)),.lf (.val (.map none))]:=StA.ofB Tryz.underlying174 (by kernel_rfl)
theorem zvP:MapT Tryz.prog 110 3 107 (Rp.int .i64) (Rp.list zg) ([]:(List zf)):=MapT.ofB Tryz.underlying110 (zxo Tryz.underlying3) (by kernel_rfl)
theorem zAa:MapT Tryz.prog 151 221 113 zk zg ((⟨(⟨0,0,0,0,0⟩:zo),0,false⟩:zf):zf):=MapT.ofB Tryz.underlying151 (znx Tryz.underlying221 (by kernel_rfl) rfl (fun _=>by kernel_rfl) (fun a b=>by cases a;cases b;simp [zk,eqL,leq,Bool.decide_and,Bool.beq_eq_decide_eq])) (by kernel_rfl)
theorem zAb:MapT Tryz.prog 155 183 185 zQ zR ((⟨0,false,0⟩:zP):zP):=MapT.ofB Tryz.underlying155 (znx Tryz.underlying183 (by kernel_rfl) rfl (fun _=>by kernel_rfl) (fun a b=>by cases a;cases b;simp [zQ,eqL,leq,Bool.decide_and,Bool.beq_eq_decide_eq])) (by kernel_rfl)
theorem zrK:MapT Tryz.prog 171 209 4 zu Rp.bool (false:Bool):=MapT.ofB Tryz.underlying171 (znx Tryz.underlying209 (by kernel_rfl) rfl (fun _=>by kernel_rfl) (fun a b=>by cases a;cases b;simp [zu,eqL,leq,Bool.decide_and,Bool.beq_eq_decide_eq])) (by kernel_rfl)
theorem zAc:MapT Tryz.prog 172 211 4 zt Rp.bool (false:Bool):=MapT.ofB Tryz.underlying172 (znx Tryz.underlying211 (by kernel_rfl) rfl (fun _=>by kernel_rfl) (fun a b=>by cases a;cases b;simp [zt,eqL,leq,Bool.decide_and,Bool.beq_eq_decide_eq])) (by kernel_rfl)
theorem zew:MapT Tryz.prog 204 3 206 (Rp.int .i64) zC ((⟨[],0⟩:zw):zw):=MapT.ofB Tryz.underlying204 (zxo Tryz.underlying3) (by kernel_rfl)
end Go.Proofs.YtcbkcblkecmjnaaGreat
