/-
  Facts on the types of the program. No condition.
-/
import Derived.KernelRfl
import Derived.Test.Ytnckiilakdkklaax1K2
import Derived.Test.YtnckiilakdkklaaProg
import Derived.Lib.SlBytesConst
import Derived.Test.Ytnckiilakdkklaax1S1
namespace Go.Proofs.Ytnckiilakdkklaa
open Try
open Go Go.RowKit
set_option linter.unusedVariables false
abbrev uq:=Rp.int .i64
abbrev ur:=FnOk prog
abbrev ut:=@AV.le_refl
theorem zit:prog.follows .mixedOrders=true:=by kernel_rfl
theorem ziC:ZeT prog 23 39 zg 40 ((⟨[],[]⟩:zh):zh):=ZeT.ofB underlying23 (by kernel_rfl)
theorem zcW:ZeT prog 24 5 Rp.byte 1 (0:UInt8):=ZeT.ofB underlying24 (by kernel_rfl)
theorem zoq:ZeT prog 30 24 (Rp.list Rp.byte) 24 ([]:(List UInt8)):=ZeT.ofB underlying30 (by kernel_rfl)
theorem zkS:ZeT prog 37 36 zb 48 ((⟨[],0,0,false,false,0⟩:zd):zd):=ZeT.ofB underlying37 (by kernel_rfl)
theorem zsE:ZeT prog 49 54 zc 56 ((⟨(⟨0,0,0,0,0⟩:zi),0,false⟩:za):za):=ZeT.ofB underlying49 (by kernel_rfl)
theorem zyC:ZeT prog 74 3 (Rp.int .i64) 8 (0:Int):=ZeT.ofB underlying74 (by kernel_rfl)
theorem zgE:zc.Plain:=fun x=>by simp [zc,LV.plain]
theorem zyy:StT prog 36 [(0,1),(1,1),(2,1),(3,1),(4,1),(5,1)] [.str [],.int .i64 0,.int .i64 0,.bool false,.bool false,.int .i64 0]:=StT.ofB underlying36 (by kernel_rfl)
theorem zsx:StT prog 52 [(0,1),(1,1),(2,1),(3,1),(4,1)] [.int .i64 0,.int .i64 0,.int .i64 0,.int .i64 0,.int .i64 0]:=StT.ofB underlying52 (by kernel_rfl)
theorem zqm:StT prog 54 [(0,5),(5,1),(6,1)] [.int .i64 0,.int .i64 0,.int .i64 0,.int .i64 0,.int .i64 0,.int .i64 0,.bool false]:=StT.ofB underlying54 (by kernel_rfl)
theorem zog:StT prog 57 [(0,1),(1,1),(2,1)] [.int .i64 0,.int .i64 0,.int .u8 0]:=StT.ofB underlying57 (by kernel_rfl)
theorem zsy:StT prog 66 [(0,1),(1,1),(2,1)] [.int .i64 0,.int .i64 0,.int .i64 0]:=StT.ofB underlying66 (by kernel_rfl)
theorem zyz:StT prog 85 [(0,1),(1,1)] [.int .i64 0,.int .i64 0]:=StT.ofB underlying85 (by kernel_rfl)
theorem zvd:StT prog 87 [(0,1),(1,1),(2,1)] [.int .i64 0,.bool false,.int .u8 0]:=StT.ofB underlying87 (by kernel_rfl)
theorem zyA:StT prog 91 [(0,1),(1,1),(2,1)] [.int .i64 0,.int .i64 0,.int .i64 0]:=StT.ofB underlying91 (by kernel_rfl)
theorem zcE:StT prog 101 [(0,1),(1,1)] [.str [],.int .i64 0]:=StT.ofB underlying101 (by kernel_rfl)
theorem zvc:StT prog 104 [(0,1),(1,1)] [.int .i64 0,.str []]:=StT.ofB underlying104 (by kernel_rfl)
theorem zxR:StT prog 107 [(0,1),(1,1)] [.int .i64 0,.int .i64 0]:=StT.ofB underlying107 (by kernel_rfl)
theorem zru:StT prog 112 [(0,1),(1,1)] [.int .i64 0,.int .i64 0]:=StT.ofB underlying112 (by kernel_rfl)
theorem zyv:StA prog 39 [(0,1),(1,1)] [kS [],kN]:=StA.ofB underlying39 (by kernel_rfl)
theorem zyw:StA prog 63 [(0,1),(1,1),(2,1)] [kN,kN,.lf (.val (.map none))]:=StA.ofB underlying63 (by kernel_rfl)
theorem zyx:StA prog 79 [(0,1),(1,1),(2,1),(3,1)] [kI 0,kN,.lf (.val (.map none)),.lf (.val (.map none))]:=StA.ofB underlying79 (by kernel_rfl)
theorem zuz:MapT prog 47 3 4 (Rp.int .i64) Rp.bool (false:Bool):=MapT.ofB underlying47 (zpQ underlying3) (by kernel_rfl)
theorem zuA:MapT prog 61 91 54 zf zc ((⟨(⟨0,0,0,0,0⟩:zi),0,false⟩:za):za):=MapT.ofB underlying61 (zhX underlying91 (by kernel_rfl) rfl (fun _=>by kernel_rfl) (fun a b=>by cases a;cases b;simp [zf,eqL,leq,Bool.decide_and,Bool.beq_eq_decide_eq])) (by kernel_rfl)
theorem zuB:MapT prog 69 85 87 zA zC ((⟨0,false,0⟩:zv):zv):=MapT.ofB underlying69 (zhX underlying85 (by kernel_rfl) rfl (fun _=>by kernel_rfl) (fun a b=>by cases a;cases b;simp [zA,eqL,leq,Bool.decide_and,Bool.beq_eq_decide_eq])) (by kernel_rfl)
theorem zoO:MapT prog 76 104 4 zp Rp.bool (false:Bool):=MapT.ofB underlying76 (zhX underlying104 (by kernel_rfl) rfl (fun _=>by kernel_rfl) (fun a b=>by cases a;cases b;simp [zp,eqL,leq,Bool.decide_and,Bool.beq_eq_decide_eq])) (by kernel_rfl)
theorem zuC:MapT prog 77 107 4 zq Rp.bool (false:Bool):=MapT.ofB underlying77 (zhX underlying107 (by kernel_rfl) rfl (fun _=>by kernel_rfl) (fun a b=>by cases a;cases b;simp [zq,eqL,leq,Bool.decide_and,Bool.beq_eq_decide_eq])) (by kernel_rfl)
theorem zcu:MapT prog 99 3 101 (Rp.int .i64) zM ((⟨[],0⟩:zj):zj):=MapT.ofB underlying99 (zpQ underlying3) (by kernel_rfl)
abbrev zgT (x:zP):List AV:=[kI x.Message,kI x.Field,kI x.What]
abbrev zx (C:List Nat) (x:zh):List AV:=[kS x.Name,.sl zb C x.Fields]
abbrev zbb (x:zd):List AV:=[kS x.Name,kI x.Number,kI x.Kind,kB x.Repeated,kB x.Packed,kI x.Of]
abbrev zfk (x:zi):List AV:=[kI x.Number,kI x.Wire,kI x.From,kI x.At,kI x.To]
abbrev zbm (x:za):List AV:=[kI x.Record.Number,kI x.Record.Wire,kI x.Record.From,kI x.Record.At,kI x.Record.To,kI x.Field,kB x.Run]
abbrev zdM (x:zn):List AV:=[kI x.depth,kI x.place,k8 x.e]
abbrev zlJ (x:zv):List AV:=[kI x.field,kB x.run,k8 x.e]
abbrev zxj:=(⟨isAgg112,sizeOf112⟩:AggT prog 112 _)
abbrev zpk:=(⟨isAgg36,sizeOf36⟩:AggT prog 36 _)
abbrev zrG:=(⟨isAgg39,sizeOf39⟩:AggT prog 39 _)
abbrev zyc:=(⟨isAgg52,sizeOf52⟩:AggT prog 52 _)
abbrev zpl:=(⟨isAgg54,sizeOf54⟩:AggT prog 54 _)
abbrev ztE:=(⟨isAgg57,sizeOf57⟩:AggT prog 57 _)
abbrev zyd:=(⟨isAgg66,sizeOf66⟩:AggT prog 66 _)
abbrev zye:=(⟨isAgg87,sizeOf87⟩:AggT prog 87 _)
end Go.Proofs.Ytnckiilakdkklaa
