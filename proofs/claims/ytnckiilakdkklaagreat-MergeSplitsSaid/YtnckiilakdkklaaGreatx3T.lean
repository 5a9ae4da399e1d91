/-
  Facts on the types of the program. No condition.
-/
import Derived.KernelRfl
import Derived.Test.YtnckiilakdkklaaGreatx3K2
import Derived.Test.YtnckiilakdkklaaGreatProg
import Derived.Lib.SlBytesConst
import Derived.Test.YtnckiilakdkklaaGreatx3S1
namespace Go.Proofs.YtnckiilakdkklaaGreat
open Tryz
open Go Go.RowKit
set_option linter.unusedVariables false
abbrev uU:=Rp.int .i64
abbrev uV:=FnOk prog
abbrev uW:=@AV.le_refl
theorem zeq:prog.follows .mixedOrders=true:=by kernel_rfl
theorem zeQ:ZeT prog 23 65 zf 40 ((⟨[],[]⟩:zc):zc):=ZeT.ofB underlying23 (by kernel_rfl)
theorem zcd:ZeT prog 24 5 Rp.byte 1 (0:UInt8):=ZeT.ofB underlying24 (by kernel_rfl)
theorem zza:ZeT prog 47 24 (Rp.list Rp.byte) 24 ([]:(List UInt8)):=ZeT.ofB underlying47 (by kernel_rfl)
theorem zhf:ZeT prog 57 3 (Rp.int .i64) 8 (0:Int):=ZeT.ofB underlying57 (by kernel_rfl)
theorem zhD:ZeT prog 63 62 zb 48 ((⟨[],0,0,false,false,0⟩:zd):zd):=ZeT.ofB underlying63 (by kernel_rfl)
theorem zpU:ZeT prog 102 106 ze 56 ((⟨(⟨0,0,0,0,0⟩:zh),0,false⟩:za):za):=ZeT.ofB underlying102 (by kernel_rfl)
theorem ziM:ze.Plain:=fun x=>by simp [ze,LV.plain]
theorem zCa:StT prog 62 [(0,1),(1,1),(2,1),(3,1),(4,1),(5,1)] [.str [],.int .i64 0,.int .i64 0,.bool false,.bool false,.int .i64 0]:=StT.ofB underlying62 (by kernel_rfl)
theorem zpH:StT prog 83 [(0,1),(1,1),(2,1),(3,1),(4,1)] [.int .i64 0,.int .i64 0,.int .i64 0,.int .i64 0,.int .i64 0]:=StT.ofB underlying83 (by kernel_rfl)
theorem ztH:StT prog 85 [(0,5),(5,1),(6,1)] [.int .i64 0,.int .i64 0,.int .i64 0,.int .i64 0,.int .i64 0,.int .i64 0,.bool false]:=StT.ofB underlying85 (by kernel_rfl)
theorem zsi:StT prog 104 [(0,1),(1,1),(2,1),(3,1),(4,1)] [.int .i64 0,.int .i64 0,.int .i64 0,.int .i64 0,.int .i64 0]:=StT.ofB underlying104 (by kernel_rfl)
theorem zpG:StT prog 106 [(0,5),(5,1),(6,1)] [.int .i64 0,.int .i64 0,.int .i64 0,.int .i64 0,.int .i64 0,.int .i64 0,.bool false]:=StT.ofB underlying106 (by kernel_rfl)
theorem znk:StT prog 114 [(0,1),(1,1),(2,1)] [.int .i64 0,.int .i64 0,.int .u8 0]:=StT.ofB underlying114 (by kernel_rfl)
theorem zsj:StT prog 150 [(0,1),(1,1),(2,1)] [.int .i64 0,.int .i64 0,.int .i64 0]:=StT.ofB underlying150 (by kernel_rfl)
theorem zBt:StT prog 162 [(0,1),(1,1)] [.int .i64 0,.int .i64 0]:=StT.ofB underlying162 (by kernel_rfl)
theorem zuV:StT prog 164 [(0,1),(1,1),(2,1)] [.int .i64 0,.bool false,.int .u8 0]:=StT.ofB underlying164 (by kernel_rfl)
theorem zBu:StT prog 183 [(0,1),(1,1),(2,1)] [.int .i64 0,.int .i64 0,.int .i64 0]:=StT.ofB underlying183 (by kernel_rfl)
theorem zuW:StT prog 188 [(0,1),(1,1)] [.int .i64 0,.int .i64 0]:=StT.ofB underlying188 (by kernel_rfl)
theorem zeb:StT prog 213 [(0,1),(1,1)] [.str [],.int .i64 0]:=StT.ofB underlying213 (by kernel_rfl)
theorem zyI:StT prog 216 [(0,1),(1,1)] [.int .i64 0,.str []]:=StT.ofB underlying216 (by kernel_rfl)
theorem zBv:StT prog 218 [(0,1),(1,1)] [.int .i64 0,.int .i64 0]:=StT.ofB underlying218 (by kernel_rfl)
theorem zBZ:StA prog 65 [(0,1),(1,1)] [kS [],kN]:=StA.ofB underlying65 (by kernel_rfl)
theorem zBr:StA prog 138 [(0,1),(1,1),(2,1)] [kN,kN,.lf (.val (.map none))]:=StA.ofB underlying138 (by kernel_rfl)
theorem zBs:StA prog 177 [(0,1),(1,1),(2,1),(3,1)] [kI 0,kN,.lf (.val (.map none)),.lf (.val (.map none))]:=StA.ofB underlying177 (by kernel_rfl)
theorem zvK:MapT prog 100 3 4 (Rp.int .i64) Rp.bool (false:Bool):=MapT.ofB underlying100 (zte underlying3) (by kernel_rfl)
theorem zvL:MapT prog 136 183 106 zi ze ((⟨(⟨0,0,0,0,0⟩:zh),0,false⟩:za):za):=MapT.ofB underlying136 (zkw underlying183 (by kernel_rfl) rfl (fun _=>by kernel_rfl) (fun a b=>by cases a;cases b;simp [zi,eqL,leq,Bool.decide_and,Bool.beq_eq_decide_eq])) (by kernel_rfl)
theorem zvM:MapT prog 140 162 164 zF zG ((⟨0,false,0⟩:zz):zz):=MapT.ofB underlying140 (zkw underlying162 (by kernel_rfl) rfl (fun _=>by kernel_rfl) (fun a b=>by cases a;cases b;simp [zF,eqL,leq,Bool.decide_and,Bool.beq_eq_decide_eq])) (by kernel_rfl)
theorem zoc:MapT prog 174 216 4 zt Rp.bool (false:Bool):=MapT.ofB underlying174 (zkw underlying216 (by kernel_rfl) rfl (fun _=>by kernel_rfl) (fun a b=>by cases a;cases b;simp [zt,eqL,leq,Bool.decide_and,Bool.beq_eq_decide_eq])) (by kernel_rfl)
theorem zvN:MapT prog 175 218 4 zu Rp.bool (false:Bool):=MapT.ofB underlying175 (zkw underlying218 (by kernel_rfl) rfl (fun _=>by kernel_rfl) (fun a b=>by cases a;cases b;simp [zu,eqL,leq,Bool.decide_and,Bool.beq_eq_decide_eq])) (by kernel_rfl)
theorem zcH:MapT prog 211 3 213 (Rp.int .i64) zQ ((⟨[],0⟩:zj):zj):=MapT.ofB underlying211 (zte underlying3) (by kernel_rfl)
abbrev zjc (x:zS):List AV:=[kI x.Message,kI x.Field,kI x.What]
abbrev zD (C:List Nat) (x:zc):List AV:=[kS x.Name,.sl zb C x.Fields]
abbrev zaP (x:zd):List AV:=[kS x.Name,kI x.Number,kI x.Kind,kB x.Repeated,kB x.Packed,kI x.Of]
abbrev zen (x:zh):List AV:=[kI x.Number,kI x.Wire,kI x.From,kI x.At,kI x.To]
abbrev zoy (x:zaq):List AV:=[kI x.R.Number,kI x.R.Wire,kI x.R.From,kI x.R.At,kI x.R.To,kI x.Field,kB x.Run]
abbrev zcm (x:za):List AV:=[kI x.Record.Number,kI x.Record.Wire,kI x.Record.From,kI x.Record.At,kI x.Record.To,kI x.Field,kB x.Run]
abbrev zfx (x:zn):List AV:=[kI x.depth,kI x.place,k8 x.e]
abbrev zoz (x:zz):List AV:=[kI x.field,kB x.run,k8 x.e]
abbrev zAF:=(⟨isAgg104,sizeOf104⟩:AggT prog 104 _)
abbrev zmJ:=(⟨isAgg106,sizeOf106⟩:AggT prog 106 _)
abbrev zue:=(⟨isAgg114,sizeOf114⟩:AggT prog 114 _)
abbrev zAG:=(⟨isAgg150,sizeOf150⟩:AggT prog 150 _)
abbrev zAH:=(⟨isAgg164,sizeOf164⟩:AggT prog 164 _)
abbrev zAI:=(⟨isAgg188,sizeOf188⟩:AggT prog 188 _)
abbrev znq:=(⟨isAgg62,sizeOf62⟩:AggT prog 62 _)
abbrev zsx:=(⟨isAgg65,sizeOf65⟩:AggT prog 65 _)
abbrev zBF:=(⟨isAgg83,sizeOf83⟩:AggT prog 83 _)
abbrev zBG:=(⟨isAgg85,sizeOf85⟩:AggT prog 85 _)
end Go.Proofs.YtnckiilakdkklaaGreat
