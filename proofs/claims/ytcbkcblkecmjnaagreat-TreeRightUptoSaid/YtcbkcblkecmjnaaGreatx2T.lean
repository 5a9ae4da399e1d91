/-
  Facts on the types of the program. No condition.
-/
import Derived.KernelRfl
import Derived.Test.YtcbkcblkecmjnaaGreatx2K2
import Derived.Test.YtcbkcblkecmjnaaGreatProg
import Derived.Test.YtcbkcblkecmjnaaGreatx2S1
namespace Go.Proofs.YtcbkcblkecmjnaaGreat
open Go Go.RowKit
set_option linter.unusedVariables false
theorem zcc:Tryz.prog.follows .mixedOrders=true:=by kernel_rfl
theorem zhT:ZeT Tryz.prog 23 73 zi 40 ((⟨[],[]⟩:zh):zh):=ZeT.ofB Tryz.underlying23 (by kernel_rfl)
theorem zeU:ZeT Tryz.prog 24 5 Rp.byte 1 (0:UInt8):=ZeT.ofB Tryz.underlying24 (by kernel_rfl)
theorem zkQ:ZeT Tryz.prog 27 50 za 80 ((⟨0,[],[],[]⟩:zb):zb):=ZeT.ofB Tryz.underlying27 (by kernel_rfl)
theorem zif:ZeT Tryz.prog 28 9 Rp.str 16 ([]:Str):=ZeT.ofB Tryz.underlying28 (by kernel_rfl)
theorem zlY:ZeT Tryz.prog 37 56 za 80 ((⟨0,[],[],[]⟩:zb):zb):=ZeT.ofB Tryz.underlying37 (by kernel_rfl)
theorem zld:ZeT Tryz.prog 47 75 (Rp.int .u64) 8 (0:Int):=ZeT.ofB Tryz.underlying47 (by kernel_rfl)
theorem zoG:ZeT Tryz.prog 48 30 zd 48 ((⟨[],[]⟩:zc):zc):=ZeT.ofB Tryz.underlying48 (by kernel_rfl)
theorem zxI:ZeT Tryz.prog 54 39 zd 48 ((⟨[],[]⟩:zc):zc):=ZeT.ofB Tryz.underlying54 (by kernel_rfl)
theorem zle:ZeT Tryz.prog 71 64 zf 48 ((⟨[],0,0,false,false,0⟩:ze):ze):=ZeT.ofB Tryz.underlying71 (by kernel_rfl)
theorem zDi:ZeT Tryz.prog 82 3 (Rp.int .i64) 8 (0:Int):=ZeT.ofB Tryz.underlying82 (by kernel_rfl)
theorem zni:ZeT Tryz.prog 107 113 zj 56 ((⟨(⟨0,0,0,0,0⟩:zu),0,false⟩:zg):zg):=ZeT.ofB Tryz.underlying107 (by kernel_rfl)
theorem ztr:ZeT Tryz.prog 192 24 (Rp.list Rp.byte) 24 ([]:(List UInt8)):=ZeT.ofB Tryz.underlying192 (by kernel_rfl)
theorem zjm:zj.Plain:=fun x=>by simp [zj,LV.plain]
theorem zJe:StT Tryz.prog 64 [(0,1),(1,1),(2,1),(3,1),(4,1),(5,1)] [.str [],.int .i64 0,.int .i64 0,.bool false,.bool false,.int .i64 0]:=StT.ofB Tryz.underlying64 (by kernel_rfl)
theorem zvN:StT Tryz.prog 85 [(0,1),(1,1),(2,1),(3,1),(4,1)] [.int .i64 0,.int .i64 0,.int .i64 0,.int .i64 0,.int .i64 0]:=StT.ofB Tryz.underlying85 (by kernel_rfl)
theorem ztd:StT Tryz.prog 105 [(0,1),(1,1),(2,1)] [.int .i64 0,.int .i64 0,.int .u8 0]:=StT.ofB Tryz.underlying105 (by kernel_rfl)
theorem zyQ:StT Tryz.prog 111 [(0,1),(1,1),(2,1),(3,1),(4,1)] [.int .i64 0,.int .i64 0,.int .i64 0,.int .i64 0,.int .i64 0]:=StT.ofB Tryz.underlying111 (by kernel_rfl)
theorem zvM:StT Tryz.prog 113 [(0,5),(5,1),(6,1)] [.int .i64 0,.int .i64 0,.int .i64 0,.int .i64 0,.int .i64 0,.int .i64 0,.bool false]:=StT.ofB Tryz.underlying113 (by kernel_rfl)
theorem zyR:StT Tryz.prog 142 [(0,1),(1,1),(2,1)] [.int .i64 0,.int .i64 0,.int .i64 0]:=StT.ofB Tryz.underlying142 (by kernel_rfl)
theorem zIu:StT Tryz.prog 183 [(0,1),(1,1)] [.int .i64 0,.int .i64 0]:=StT.ofB Tryz.underlying183 (by kernel_rfl)
theorem zBU:StT Tryz.prog 185 [(0,1),(1,1),(2,1)] [.int .i64 0,.bool false,.int .u8 0]:=StT.ofB Tryz.underlying185 (by kernel_rfl)
theorem zBV:StT Tryz.prog 198 [(0,1),(1,1)] [.int .i64 0,.int .i64 0]:=StT.ofB Tryz.underlying198 (by kernel_rfl)
theorem zhM:StT Tryz.prog 206 [(0,1),(1,1)] [.str [],.int .i64 0]:=StT.ofB Tryz.underlying206 (by kernel_rfl)
theorem zFX:StT Tryz.prog 209 [(0,1),(1,1)] [.int .i64 0,.str []]:=StT.ofB Tryz.underlying209 (by kernel_rfl)
theorem zIv:StT Tryz.prog 211 [(0,1),(1,1)] [.int .i64 0,.int .i64 0]:=StT.ofB Tryz.underlying211 (by kernel_rfl)
theorem zIw:StT Tryz.prog 221 [(0,1),(1,1),(2,1)] [.int .i64 0,.int .i64 0,.int .i64 0]:=StT.ofB Tryz.underlying221 (by kernel_rfl)
theorem zCY:StA Tryz.prog 30 [(0,1),(1,1)] [kN,kN]:=StA.ofB Tryz.underlying30 (by kernel_rfl)
theorem zJc:StA Tryz.prog 39 [(0,1),(1,1)] [kN,kN]:=StA.ofB Tryz.underlying39 (by kernel_rfl)
theorem zCZ:StA Tryz.prog 50 [(0,1),(1,1),(2,1),(3,1)] [kI 0,kN,kN,kN]:=StA.ofB Tryz.underlying50 (by kernel_rfl)
theorem zHL:StA Tryz.prog 56 [(0,1),(1,1),(2,1),(3,1)] [kI 0,kN,kN,kN]:=StA.ofB Tryz.underlying56 (by kernel_rfl)
theorem zJd:StA Tryz.prog 73 [(0,1),(1,1)] [kS [],kN]:=StA.ofB Tryz.underlying73 (by kernel_rfl)
theorem zIr:StA Tryz.prog 153 [(0,1),(1,1),(2,1)] [kN,kN,.lf (.val (.map none))]:=StA.ofB Tryz.underlying153 (by kernel_rfl)
theorem zIs:StA Tryz.prog 174 [(0,1),(1,1),(2,1),(3,1)] [kI 0,kN,.lf (.val (.map none)),.lf (.val (.map none))]:=StA.ofB Tryz.underlying174 (by kernel_rfl)
theorem zyx:MapT Tryz.prog 110 3 107 (Rp.int .i64) (Rp.list zj) ([]:(List zg)):=MapT.ofB Tryz.underlying110 (zzX Tryz.underlying3) (by kernel_rfl)
theorem zCG:MapT Tryz.prog 151 221 113 zk zj ((⟨(⟨0,0,0,0,0⟩:zu),0,false⟩:zg):zg):=MapT.ofB Tryz.underlying151 (zqa Tryz.underlying221 (by kernel_rfl) rfl (fun _=>by kernel_rfl) (fun a b=>by cases a;cases b;simp [zk,eqL,leq,Bool.decide_and,Bool.beq_eq_decide_eq])) (by kernel_rfl)
theorem zCH:MapT Tryz.prog 155 183 185 zad zaf ((⟨0,false,0⟩:zX):zX):=MapT.ofB Tryz.underlying155 (zqa Tryz.underlying183 (by kernel_rfl) rfl (fun _=>by kernel_rfl) (fun a b=>by cases a;cases b;simp [zad,eqL,leq,Bool.decide_and,Bool.beq_eq_decide_eq])) (by kernel_rfl)
theorem zul:MapT Tryz.prog 171 209 4 zw Rp.bool (false:Bool):=MapT.ofB Tryz.underlying171 (zqa Tryz.underlying209 (by kernel_rfl) rfl (fun _=>by kernel_rfl) (fun a b=>by cases a;cases b;simp [zw,eqL,leq,Bool.decide_and,Bool.beq_eq_decide_eq])) (by kernel_rfl)
theorem zCI:MapT Tryz.prog 172 211 4 zv Rp.bool (false:Bool):=MapT.ofB Tryz.underlying172 (zqa Tryz.underlying211 (by kernel_rfl) rfl (fun _=>by kernel_rfl) (fun a b=>by cases a;cases b;simp [zv,eqL,leq,Bool.decide_and,Bool.beq_eq_decide_eq])) (by kernel_rfl)
theorem zfI:MapT Tryz.prog 204 3 206 (Rp.int .i64) zI ((⟨[],0⟩:zB):zB):=MapT.ofB Tryz.underlying204 (zzX Tryz.underlying3) (by kernel_rfl)
end Go.Proofs.YtcbkcblkecmjnaaGreat
