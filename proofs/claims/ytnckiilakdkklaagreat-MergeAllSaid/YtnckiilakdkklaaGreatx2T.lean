/-
  Facts on the types of the program. No condition.
-/
import Derived.KernelRfl
import Derived.Test.YtnckiilakdkklaaGreatx2K2
import Derived.Test.YtnckiilakdkklaaGreatProg
import Derived.Lib.SlBytesConst
import Derived.Test.YtnckiilakdkklaaGreatx2S1
namespace Go.Proofs.YtnckiilakdkklaaGreat
open Tryz
open Go Go.RowKit
set_option linter.unusedVariables false
abbrev u9:=Rp.int .i64
abbrev va:=FnOk prog
abbrev vb:=@AV.le_refl
theorem zdw:prog.follows .mixedOrders=true:=by kernel_rfl
theorem zdS:ZeT prog 23 65 zf 40 ((⟨[],[]⟩:zc):zc):=ZeT.ofB underlying23 (by kernel_rfl)
theorem zcq:ZeT prog 24 5 Rp.byte 1 (0:UInt8):=ZeT.ofB underlying24 (by kernel_rfl)
theorem zmS:ZeT prog 47 24 (Rp.list Rp.byte) 24 ([]:(List UInt8)):=ZeT.ofB underlying47 (by kernel_rfl)
theorem zus:ZeT prog 57 3 (Rp.int .i64) 8 (0:Int):=ZeT.ofB underlying57 (by kernel_rfl)
theorem zgq:ZeT prog 63 62 za 48 ((⟨[],0,0,false,false,0⟩:zd):zd):=ZeT.ofB underlying63 (by kernel_rfl)
theorem zkC:ZeT prog 78 85 zP 56 ((⟨(⟨0,0,0,0,0⟩:zg),0,false⟩:zt):zt):=ZeT.ofB underlying78 (by kernel_rfl)
theorem zsM:ZeT prog 102 106 ze 56 ((⟨(⟨0,0,0,0,0⟩:zg),0,false⟩:zb):zb):=ZeT.ofB underlying102 (by kernel_rfl)
theorem zmx:zP.Plain:=fun x=>by simp [zP,LV.plain]
theorem zjc:ze.Plain:=fun x=>by simp [ze,LV.plain]
theorem zCq:StT prog 62 [(0,1),(1,1),(2,1),(3,1),(4,1),(5,1)] [.str [],.int .i64 0,.int .i64 0,.bool false,.bool false,.int .i64 0]:=StT.ofB underlying62 (by kernel_rfl)
theorem zpY:StT prog 83 [(0,1),(1,1),(2,1),(3,1),(4,1)] [.int .i64 0,.int .i64 0,.int .i64 0,.int .i64 0,.int .i64 0]:=StT.ofB underlying83 (by kernel_rfl)
theorem ztY:StT prog 85 [(0,5),(5,1),(6,1)] [.int .i64 0,.int .i64 0,.int .i64 0,.int .i64 0,.int .i64 0,.int .i64 0,.bool false]:=StT.ofB underlying85 (by kernel_rfl)
theorem zsz:StT prog 104 [(0,1),(1,1),(2,1),(3,1),(4,1)] [.int .i64 0,.int .i64 0,.int .i64 0,.int .i64 0,.int .i64 0]:=StT.ofB underlying104 (by kernel_rfl)
theorem zpX:StT prog 106 [(0,5),(5,1),(6,1)] [.int .i64 0,.int .i64 0,.int .i64 0,.int .i64 0,.int .i64 0,.int .i64 0,.bool false]:=StT.ofB underlying106 (by kernel_rfl)
theorem zns:StT prog 114 [(0,1),(1,1),(2,1)] [.int .i64 0,.int .i64 0,.int .u8 0]:=StT.ofB underlying114 (by kernel_rfl)
theorem zsA:StT prog 150 [(0,1),(1,1),(2,1)] [.int .i64 0,.int .i64 0,.int .i64 0]:=StT.ofB underlying150 (by kernel_rfl)
theorem zBH:StT prog 162 [(0,1),(1,1)] [.int .i64 0,.int .i64 0]:=StT.ofB underlying162 (by kernel_rfl)
theorem zvf:StT prog 164 [(0,1),(1,1),(2,1)] [.int .i64 0,.bool false,.int .u8 0]:=StT.ofB underlying164 (by kernel_rfl)
theorem zBI:StT prog 183 [(0,1),(1,1),(2,1)] [.int .i64 0,.int .i64 0,.int .i64 0]:=StT.ofB underlying183 (by kernel_rfl)
theorem zvg:StT prog 188 [(0,1),(1,1)] [.int .i64 0,.int .i64 0]:=StT.ofB underlying188 (by kernel_rfl)
theorem zem:StT prog 213 [(0,1),(1,1)] [.str [],.int .i64 0]:=StT.ofB underlying213 (by kernel_rfl)
theorem zyQ:StT prog 216 [(0,1),(1,1)] [.int .i64 0,.str []]:=StT.ofB underlying216 (by kernel_rfl)
theorem zBJ:StT prog 218 [(0,1),(1,1)] [.int .i64 0,.int .i64 0]:=StT.ofB underlying218 (by kernel_rfl)
theorem zCp:StA prog 65 [(0,1),(1,1)] [kS [],kN]:=StA.ofB underlying65 (by kernel_rfl)
theorem zBF:StA prog 138 [(0,1),(1,1),(2,1)] [kN,kN,.lf (.val (.map none))]:=StA.ofB underlying138 (by kernel_rfl)
theorem zBG:StA prog 177 [(0,1),(1,1),(2,1),(3,1)] [kI 0,kN,.lf (.val (.map none)),.lf (.val (.map none))]:=StA.ofB underlying177 (by kernel_rfl)
theorem zvU:MapT prog 100 3 4 (Rp.int .i64) Rp.bool (false:Bool):=MapT.ofB underlying100 (ztt underlying3) (by kernel_rfl)
theorem zvV:MapT prog 136 183 106 zi ze ((⟨(⟨0,0,0,0,0⟩:zg),0,false⟩:zb):zb):=MapT.ofB underlying136 (zkH underlying183 (by kernel_rfl) rfl (fun _=>by kernel_rfl) (fun a b=>by cases a;cases b;simp [zi,eqL,leq,Bool.decide_and,Bool.beq_eq_decide_eq])) (by kernel_rfl)
theorem zvW:MapT prog 140 162 164 zG zK ((⟨0,false,0⟩:zB):zB):=MapT.ofB underlying140 (zkH underlying162 (by kernel_rfl) rfl (fun _=>by kernel_rfl) (fun a b=>by cases a;cases b;simp [zG,eqL,leq,Bool.decide_and,Bool.beq_eq_decide_eq])) (by kernel_rfl)
theorem zon:MapT prog 174 216 4 zu Rp.bool (false:Bool):=MapT.ofB underlying174 (zkH underlying216 (by kernel_rfl) rfl (fun _=>by kernel_rfl) (fun a b=>by cases a;cases b;simp [zu,eqL,leq,Bool.decide_and,Bool.beq_eq_decide_eq])) (by kernel_rfl)
theorem zvX:MapT prog 175 218 4 zv Rp.bool (false:Bool):=MapT.ofB underlying175 (zkH underlying218 (by kernel_rfl) rfl (fun _=>by kernel_rfl) (fun a b=>by cases a;cases b;simp [zv,eqL,leq,Bool.decide_and,Bool.beq_eq_decide_eq])) (by kernel_rfl)
theorem zcM:MapT prog 211 3 213 (Rp.int .i64) zU ((⟨[],0⟩:zj):zj):=MapT.ofB underlying211 (ztt underlying3) (by kernel_rfl)
abbrev zjt (x:zY):List AV:=[kI x.Message,kI x.Field,kI x.What]
abbrev zC (C:List Nat) (x:zc):List AV:=[kS x.Name,.sl za C x.Fields]
abbrev zaR (x:zd):List AV:=[kS x.Name,kI x.Number,kI x.Kind,kB x.Repeated,kB x.Packed,kI x.Of]
abbrev zev (x:zg):List AV:=[kI x.Number,kI x.Wire,kI x.From,kI x.At,kI x.To]
abbrev zoN (x:zt):List AV:=[kI x.R.Number,kI x.R.Wire,kI x.R.From,kI x.R.At,kI x.R.To,kI x.Field,kB x.Run]
abbrev zcm (x:zb):List AV:=[kI x.Record.Number,kI x.Record.Wire,kI x.Record.From,kI x.Record.At,kI x.Record.To,kI x.Field,kB x.Run]
abbrev zfB (x:zo):List AV:=[kI x.depth,kI x.place,k8 x.e]
abbrev zoO (x:zB):List AV:=[kI x.field,kB x.run,k8 x.e]
abbrev zAT:=(⟨isAgg104,sizeOf104⟩:AggT prog 104 _)
abbrev zoB:=(⟨isAgg106,sizeOf106⟩:AggT prog 106 _)
abbrev zuv:=(⟨isAgg114,sizeOf114⟩:AggT prog 114 _)
abbrev zAU:=(⟨isAgg150,sizeOf150⟩:AggT prog 150 _)
abbrev zAV:=(⟨isAgg164,sizeOf164⟩:AggT prog 164 _)
abbrev zAW:=(⟨isAgg188,sizeOf188⟩:AggT prog 188 _)
abbrev znx:=(⟨isAgg62,sizeOf62⟩:AggT prog 62 _)
abbrev zoC:=(⟨isAgg65,sizeOf65⟩:AggT prog 65 _)
abbrev zBV:=(⟨isAgg83,sizeOf83⟩:AggT prog 83 _)
abbrev zBW:=(⟨isAgg85,sizeOf85⟩:AggT prog 85 _)
end Go.Proofs.YtnckiilakdkklaaGreat
