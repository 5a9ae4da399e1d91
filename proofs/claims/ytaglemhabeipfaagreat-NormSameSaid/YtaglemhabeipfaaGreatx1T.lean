/-
  Facts on the types of the program. No condition.
-/
import Derived.KernelRfl
import Derived.Test.YtaglemhabeipfaaGreatx1K2
import Derived.Test.YtaglemhabeipfaaGreatx1K3
import Derived.Test.YtaglemhabeipfaaGreatx1Ins
import Derived.Test.YtaglemhabeipfaaGreatProg
import Derived.Test.YtaglemhabeipfaaGreatx1S1
namespace Go.Proofs.YtaglemhabeipfaaGreat
open Tryz
open Go Go.RowKit
set_option linter.unusedVariables false
abbrev wM:=Rp.int .i64
abbrev wN:=Rp.int .u64
abbrev wO:=FnOk prog
abbrev wP:=@AV.le_refl
theorem zdo:prog.follows .mixedOrders=true:=by kernel_rfl
theorem zhp:ZeT prog 23 62 zg 40 ((⟨[],[]⟩:ze):ze):=ZeT.ofB underlying23 (by kernel_rfl)
theorem zbd:ZeT prog 24 5 Rp.byte 1 (0:UInt8):=ZeT.ofB underlying24 (by kernel_rfl)
theorem zGX:ZeT prog 44 79 zw 80 ((⟨0,[],[],[]⟩:zc):zc):=ZeT.ofB underlying44 (by kernel_rfl)
theorem zvh:ZeT prog 45 9 Rp.str 16 ([]:Str):=ZeT.ofB underlying45 (by kernel_rfl)
theorem zkv:ZeT prog 60 59 zb 48 ((⟨[],0,0,false,false,0⟩:za):za):=ZeT.ofB underlying60 (by kernel_rfl)
theorem zrD:ZeT prog 76 90 (Rp.int .u64) 8 (0:Int):=ZeT.ofB underlying76 (by kernel_rfl)
theorem zDX:ZeT prog 77 47 zD 48 ((⟨[],[]⟩:zd):zd):=ZeT.ofB underlying77 (by kernel_rfl)
theorem ztE:ZeT prog 80 86 zal 56 ((⟨(⟨0,0,0,0,0⟩:zj),0,false⟩:zE):zE):=ZeT.ofB underlying80 (by kernel_rfl)
theorem zjm:ZeT prog 83 3 (Rp.int .i64) 8 (0:Int):=ZeT.ofB underlying83 (by kernel_rfl)
theorem zDY:ZeT prog 96 24 (Rp.list Rp.byte) 24 ([]:(List UInt8)):=ZeT.ofB underlying96 (by kernel_rfl)
theorem zsX:zal.Plain:=fun x=>by simp [zal,LV.plain]
theorem zOF:StT prog 59 [(0,1),(1,1),(2,1),(3,1),(4,1),(5,1)] [.str [],.int .i64 0,.int .i64 0,.bool false,.bool false,.int .i64 0]:=StT.ofB underlying59 (by kernel_rfl)
theorem zGJ:StT prog 66 [(0,1),(1,1),(2,1),(3,1),(4,1)] [.int .i64 0,.int .i64 0,.int .i64 0,.int .i64 0,.int .i64 0]:=StT.ofB underlying66 (by kernel_rfl)
theorem zDv:StT prog 68 [(0,5),(5,1),(6,1)] [.int .i64 0,.int .i64 0,.int .i64 0,.int .i64 0,.int .i64 0,.int .i64 0,.bool false]:=StT.ofB underlying68 (by kernel_rfl)
theorem zxR:StT prog 74 [(0,1),(1,1),(2,1),(3,1),(4,1)] [.int .i64 0,.int .i64 0,.int .i64 0,.int .i64 0,.int .i64 0]:=StT.ofB underlying74 (by kernel_rfl)
theorem zDw:StT prog 86 [(0,5),(5,1),(6,1)] [.int .i64 0,.int .i64 0,.int .i64 0,.int .i64 0,.int .i64 0,.int .i64 0,.bool false]:=StT.ofB underlying86 (by kernel_rfl)
theorem zun:StT prog 103 [(0,1),(1,1),(2,1)] [.int .i64 0,.int .i64 0,.int .u8 0]:=StT.ofB underlying103 (by kernel_rfl)
theorem zKu:StT prog 158 [(0,1),(1,1)] [.int .i64 0,.int .i64 0]:=StT.ofB underlying158 (by kernel_rfl)
theorem zBm:StT prog 178 [(0,1),(1,1),(2,1)] [.int .i64 0,.int .i64 0,.int .i64 0]:=StT.ofB underlying178 (by kernel_rfl)
theorem zNS:StT prog 195 [(0,1),(1,1)] [.int .i64 0,.int .i64 0]:=StT.ofB underlying195 (by kernel_rfl)
theorem zFl:StT prog 197 [(0,1),(1,1),(2,1)] [.int .i64 0,.bool false,.int .u8 0]:=StT.ofB underlying197 (by kernel_rfl)
theorem zNT:StT prog 225 [(0,1),(1,1),(2,1)] [.int .i64 0,.int .i64 0,.int .i64 0]:=StT.ofB underlying225 (by kernel_rfl)
theorem zBn:StT prog 229 [(0,1),(1,1)] [.int .i64 0,.int .i64 0]:=StT.ofB underlying229 (by kernel_rfl)
theorem zhl:StT prog 260 [(0,1),(1,1)] [.str [],.int .i64 0]:=StT.ofB underlying260 (by kernel_rfl)
theorem zKv:StT prog 263 [(0,1),(1,1)] [.int .i64 0,.str []]:=StT.ofB underlying263 (by kernel_rfl)
theorem zNU:StT prog 265 [(0,1),(1,1)] [.int .i64 0,.int .i64 0]:=StT.ofB underlying265 (by kernel_rfl)
theorem zOD:StA prog 62 [(0,1),(1,1)] [kS [],kN]:=StA.ofB underlying62 (by kernel_rfl)
theorem zOE:StA prog 79 [(0,1),(1,1),(2,1),(3,1)] [kI 0,kN,kN,kN]:=StA.ofB underlying79 (by kernel_rfl)
theorem zNM:StA prog 107 [(0,1),(1,1)] [kN,.lf (.val (.map none))]:=StA.ofB underlying107 (by kernel_rfl)
theorem zNN:StA prog 150 [(0,1),(1,1),(2,1)] [kN,kN,.lf (.val (.map none))]:=StA.ofB underlying150 (by kernel_rfl)
theorem zNO:StA prog 218 [(0,1),(1,1),(2,1),(3,1)] [kI 0,kN,.lf (.val (.map none)),.lf (.val (.map none))]:=StA.ofB underlying218 (by kernel_rfl)
theorem zAK:MapT prog 105 158 3 zf (Rp.int .i64) (0:Int):=MapT.ofB underlying105 (zns underlying158 (by kernel_rfl) rfl (fun _=>by kernel_rfl) (fun a b=>by cases a;cases b;simp [zf,eqL,leq,Bool.decide_and,Bool.beq_eq_decide_eq])) (by kernel_rfl)
theorem zGi:MapT prog 148 225 68 zn zk ((⟨(⟨0,0,0,0,0⟩:zj),0,false⟩:zi):zi):=MapT.ofB underlying148 (zns underlying225 (by kernel_rfl) rfl (fun _=>by kernel_rfl) (fun a b=>by cases a;cases b;simp [zn,eqL,leq,Bool.decide_and,Bool.beq_eq_decide_eq])) (by kernel_rfl)
theorem zAL:MapT prog 152 3 24 (Rp.int .i64) (Rp.list Rp.byte) ([]:(List UInt8)):=MapT.ofB underlying152 (zCw underlying3) (by kernel_rfl)
theorem zGj:MapT prog 160 195 197 zam zaw ((⟨0,false,0⟩:zW):zW):=MapT.ofB underlying160 (zns underlying195 (by kernel_rfl) rfl (fun _=>by kernel_rfl) (fun a b=>by cases a;cases b;simp [zam,eqL,leq,Bool.decide_and,Bool.beq_eq_decide_eq])) (by kernel_rfl)
theorem zvI:MapT prog 215 263 4 zA Rp.bool (false:Bool):=MapT.ofB underlying215 (zns underlying263 (by kernel_rfl) rfl (fun _=>by kernel_rfl) (fun a b=>by cases a;cases b;simp [zA,eqL,leq,Bool.decide_and,Bool.beq_eq_decide_eq])) (by kernel_rfl)
theorem zGk:MapT prog 216 265 4 zf Rp.bool (false:Bool):=MapT.ofB underlying216 (zns underlying265 (by kernel_rfl) rfl (fun _=>by kernel_rfl) (fun a b=>by cases a;cases b;simp [zf,eqL,leq,Bool.decide_and,Bool.beq_eq_decide_eq])) (by kernel_rfl)
theorem zfo:MapT prog 258 3 260 (Rp.int .i64) zak ((⟨[],0⟩:zq):zq):=MapT.ofB underlying258 (zCw underlying3) (by kernel_rfl)
abbrev zaz (l1:Nat) (C1:List Nat) (l2:Nat) (C2:List Nat) (x:zd):List AV:=[.own zw 79 l1 C1 x.Values,.own Rp.str 9 l2 C2 x.Unknown]
abbrev zoP (x:zao):List AV:=[kI x.Message,kI x.Field,kI x.What]
abbrev zaf (C:List Nat) (x:ze):List AV:=[kS x.Name,.sl zb C x.Fields]
abbrev zQ (x:za):List AV:=[kS x.Name,kI x.Number,kI x.Kind,kB x.Repeated,kB x.Packed,kI x.Of]
abbrev zaN (x:zj):List AV:=[kI x.Number,kI x.Wire,kI x.From,kI x.At,kI x.To]
abbrev zlh (C:List Nat) (x:zc):List AV:=[kI x.Number,.sl (Rp.int .u64) C x.Words,.sl Rp.str C x.Texts,.sl zD C x.Subs]
abbrev zwn (x:zE):List AV:=[kI x.R.Number,kI x.R.Wire,kI x.R.From,kI x.R.At,kI x.R.To,kI x.Field,kB x.Run]
abbrev zeD (x:zi):List AV:=[kI x.Record.Number,kI x.Record.Wire,kI x.Record.From,kI x.Record.At,kI x.Record.To,kI x.Field,kB x.Run]
abbrev zsq (C:List Nat) (x:zd):List AV:=[.sl zw C x.Values,.sl Rp.str C x.Unknown]
abbrev zjr (x:zx):List AV:=[kI x.depth,kI x.place,k8 x.e]
abbrev zwo (x:zW):List AV:=[kI x.field,kB x.run,k8 x.e]
theorem zeW (C:List Nat) (x:zc):zfW (zlh C x)=some (zw.lv x):=by rw [zeN]<;>rfl
theorem zmi (C:List Nat) (x:zd):zfW (zsq C x)=some (zD.lv x):=by rw [zfg]<;>rfl
abbrev zEc:=(⟨isAgg103,sizeOf103⟩:AggT prog 103 _)
abbrev zIm:=(⟨isAgg107,sizeOf107⟩:AggT prog 107 _)
abbrev zMV:=(⟨isAgg178,sizeOf178⟩:AggT prog 178 _)
abbrev zMW:=(⟨isAgg197,sizeOf197⟩:AggT prog 197 _)
abbrev zMX:=(⟨isAgg229,sizeOf229⟩:AggT prog 229 _)
abbrev zIn:=(⟨isAgg47,sizeOf47⟩:AggT prog 47 _)
abbrev zoG:=(⟨isAgg59,sizeOf59⟩:AggT prog 59 _)
abbrev zyN:=(⟨isAgg62,sizeOf62⟩:AggT prog 62 _)
abbrev zIo:=(⟨isAgg66,sizeOf66⟩:AggT prog 66 _)
abbrev zIp:=(⟨isAgg68,sizeOf68⟩:AggT prog 68 _)
abbrev zOi:=(⟨isAgg74,sizeOf74⟩:AggT prog 74 _)
abbrev zMu:=(⟨isAgg79,sizeOf79⟩:AggT prog 79 _)
abbrev zOj:=(⟨isAgg86,sizeOf86⟩:AggT prog 86 _)
end Go.Proofs.YtaglemhabeipfaaGreat
