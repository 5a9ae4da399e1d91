/-
  Facts on the types of the program. No condition.
-/
import Derived.KernelRfl
import Derived.Test.YtaglemhabeipfaaGreatx1K2
import Derived.Test.YtaglemhabeipfaaGreatx1K3
import Derived.Test.YtaglemhabeipfaaGreatx1Ins
import Derived.Test.YtaglemhabeipfaaGreatProg
import Derived.Test.YtaglemhabeipfaaGreatx1S1
namespace Go.Proofs.YtaglemhabeipfaaGreat
open Tryz
open Go Go.RowKit
set_option linter.unusedVariables false
abbrev kd:=Rp.int .i64
abbrev ke:=Rp.int .u64
abbrev kg:=FnOk prog
abbrev kh:=@AV.le_refl
theorem zcw:prog.follows .mixedOrders=true:=by kernel_rfl
theorem zgS:ZeT prog 23 62 zd 40 ((⟨[],[]⟩:zc):zc):=ZeT.ofB underlying23 (by kernel_rfl)
theorem zap:ZeT prog 24 5 Rp.byte 1 (0:UInt8):=ZeT.ofB underlying24 (by kernel_rfl)
theorem zJc:ZeT prog 44 79 zy 80 ((⟨0,[],[],[]⟩:ze):ze):=ZeT.ofB underlying44 (by kernel_rfl)
theorem zBX:ZeT prog 45 9 Rp.str 16 ([]:Str):=ZeT.ofB underlying45 (by kernel_rfl)
theorem zkc:ZeT prog 60 59 zb 48 ((⟨[],0,0,false,false,0⟩:za):za):=ZeT.ofB underlying60 (by kernel_rfl)
theorem zBY:ZeT prog 63 68 zk 56 ((⟨(⟨0,0,0,0,0⟩:zj),0,false⟩:zi):zi):=ZeT.ofB underlying63 (by kernel_rfl)
theorem zGb:ZeT prog 71 74 zp 40 ((⟨0,0,0,0,0⟩:zj):zj):=ZeT.ofB underlying71 (by kernel_rfl)
theorem ztb:ZeT prog 76 90 (Rp.int .u64) 8 (0:Int):=ZeT.ofB underlying76 (by kernel_rfl)
theorem zJd:ZeT prog 77 47 zN 48 ((⟨[],[]⟩:zh):zh):=ZeT.ofB underlying77 (by kernel_rfl)
theorem zvj:ZeT prog 80 86 zao 56 ((⟨(⟨0,0,0,0,0⟩:zj),0,false⟩:zD):zD):=ZeT.ofB underlying80 (by kernel_rfl)
theorem zkd:ZeT prog 83 3 (Rp.int .i64) 8 (0:Int):=ZeT.ofB underlying83 (by kernel_rfl)
theorem zGc:ZeT prog 96 24 (Rp.list Rp.byte) 24 ([]:(List UInt8)):=ZeT.ofB underlying96 (by kernel_rfl)
theorem zlp:zp.Plain:=fun x=>by simp [zp,LV.plain]
theorem zuD:zao.Plain:=fun x=>by simp [zao,LV.plain]
theorem zjF:zk.Plain:=fun x=>by simp [zk,LV.plain]
theorem zQP:StT prog 59 [(0,1),(1,1),(2,1),(3,1),(4,1),(5,1)] [.str [],.int .i64 0,.int .i64 0,.bool false,.bool false,.int .i64 0]:=StT.ofB underlying59 (by kernel_rfl)
theorem zIP:StT prog 66 [(0,1),(1,1),(2,1),(3,1),(4,1)] [.int .i64 0,.int .i64 0,.int .i64 0,.int .i64 0,.int .i64 0]:=StT.ofB underlying66 (by kernel_rfl)
theorem zFA:StT prog 68 [(0,5),(5,1),(6,1)] [.int .i64 0,.int .i64 0,.int .i64 0,.int .i64 0,.int .i64 0,.int .i64 0,.bool false]:=StT.ofB underlying68 (by kernel_rfl)
theorem zzJ:StT prog 74 [(0,1),(1,1),(2,1),(3,1),(4,1)] [.int .i64 0,.int .i64 0,.int .i64 0,.int .i64 0,.int .i64 0]:=StT.ofB underlying74 (by kernel_rfl)
theorem zFB:StT prog 86 [(0,5),(5,1),(6,1)] [.int .i64 0,.int .i64 0,.int .i64 0,.int .i64 0,.int .i64 0,.int .i64 0,.bool false]:=StT.ofB underlying86 (by kernel_rfl)
theorem zvW:StT prog 103 [(0,1),(1,1),(2,1)] [.int .i64 0,.int .i64 0,.int .u8 0]:=StT.ofB underlying103 (by kernel_rfl)
theorem zMx:StT prog 158 [(0,1),(1,1)] [.int .i64 0,.int .i64 0]:=StT.ofB underlying158 (by kernel_rfl)
theorem zDt:StT prog 178 [(0,1),(1,1),(2,1)] [.int .i64 0,.int .i64 0,.int .i64 0]:=StT.ofB underlying178 (by kernel_rfl)
theorem zPW:StT prog 195 [(0,1),(1,1)] [.int .i64 0,.int .i64 0]:=StT.ofB underlying195 (by kernel_rfl)
theorem zHp:StT prog 197 [(0,1),(1,1),(2,1)] [.int .i64 0,.bool false,.int .u8 0]:=StT.ofB underlying197 (by kernel_rfl)
theorem zPX:StT prog 225 [(0,1),(1,1),(2,1)] [.int .i64 0,.int .i64 0,.int .i64 0]:=StT.ofB underlying225 (by kernel_rfl)
theorem zDu:StT prog 229 [(0,1),(1,1)] [.int .i64 0,.int .i64 0]:=StT.ofB underlying229 (by kernel_rfl)
theorem zhV:StT prog 260 [(0,1),(1,1)] [.str [],.int .i64 0]:=StT.ofB underlying260 (by kernel_rfl)
theorem zMy:StT prog 263 [(0,1),(1,1)] [.int .i64 0,.str []]:=StT.ofB underlying263 (by kernel_rfl)
theorem zPY:StT prog 265 [(0,1),(1,1)] [.int .i64 0,.int .i64 0]:=StT.ofB underlying265 (by kernel_rfl)
theorem zQN:StA prog 62 [(0,1),(1,1)] [kS [],kN]:=StA.ofB underlying62 (by kernel_rfl)
theorem zQO:StA prog 79 [(0,1),(1,1),(2,1),(3,1)] [kI 0,kN,kN,kN]:=StA.ofB underlying79 (by kernel_rfl)
theorem zPQ:StA prog 107 [(0,1),(1,1)] [kN,.lf (.val (.map none))]:=StA.ofB underlying107 (by kernel_rfl)
theorem zPR:StA prog 150 [(0,1),(1,1),(2,1)] [kN,kN,.lf (.val (.map none))]:=StA.ofB underlying150 (by kernel_rfl)
theorem zPS:StA prog 218 [(0,1),(1,1),(2,1),(3,1)] [kI 0,kN,.lf (.val (.map none)),.lf (.val (.map none))]:=StA.ofB underlying218 (by kernel_rfl)
theorem zQu:ByT prog 24 5:=ByT.ofB underlying24 (by kernel_rfl)
theorem zCO:MapT prog 105 158 3 zf (Rp.int .i64) (0:Int):=MapT.ofB underlying105 (zoz underlying158 (by kernel_rfl) rfl (fun _=>by kernel_rfl) (fun a b=>by cases a;cases b;simp [zf,eqL,leq,Bool.decide_and,Bool.beq_eq_decide_eq])) (by kernel_rfl)
theorem zIo:MapT prog 148 225 68 zo zk ((⟨(⟨0,0,0,0,0⟩:zj),0,false⟩:zi):zi):=MapT.ofB underlying148 (zoz underlying225 (by kernel_rfl) rfl (fun _=>by kernel_rfl) (fun a b=>by cases a;cases b;simp [zo,eqL,leq,Bool.decide_and,Bool.beq_eq_decide_eq])) (by kernel_rfl)
theorem zCP:MapT prog 152 3 24 (Rp.int .i64) (Rp.list Rp.byte) ([]:(List UInt8)):=MapT.ofB underlying152 (zEC underlying3) (by kernel_rfl)
theorem zIp:MapT prog 160 195 197 zY zZ ((⟨0,false,0⟩:zQ):zQ):=MapT.ofB underlying160 (zoz underlying195 (by kernel_rfl) rfl (fun _=>by kernel_rfl) (fun a b=>by cases a;cases b;simp [zY,eqL,leq,Bool.decide_and,Bool.beq_eq_decide_eq])) (by kernel_rfl)
theorem zxl:MapT prog 215 263 4 zC Rp.bool (false:Bool):=MapT.ofB underlying215 (zoz underlying263 (by kernel_rfl) rfl (fun _=>by kernel_rfl) (fun a b=>by cases a;cases b;simp [zC,eqL,leq,Bool.decide_and,Bool.beq_eq_decide_eq])) (by kernel_rfl)
theorem zIq:MapT prog 216 265 4 zf Rp.bool (false:Bool):=MapT.ofB underlying216 (zoz underlying265 (by kernel_rfl) rfl (fun _=>by kernel_rfl) (fun a b=>by cases a;cases b;simp [zf,eqL,leq,Bool.decide_and,Bool.beq_eq_decide_eq])) (by kernel_rfl)
theorem zfI:MapT prog 258 3 260 (Rp.int .i64) zan ((⟨[],0⟩:zu):zu):=MapT.ofB underlying258 (zEC underlying3) (by kernel_rfl)
abbrev zaS (l1:Nat) (C1:List Nat) (l2:Nat) (C2:List Nat) (x:zh):List AV:=[.own zy 79 l1 C1 x.Values,.own Rp.str 9 l2 C2 x.Unknown]
abbrev zpW (x:zau):List AV:=[kI x.Message,kI x.Field,kI x.What]
abbrev zU (C:List Nat) (x:zc):List AV:=[kS x.Name,.sl zb C x.Fields]
abbrev zT (x:za):List AV:=[kS x.Name,kI x.Number,kI x.Kind,kB x.Repeated,kB x.Packed,kI x.Of]
abbrev zaT (x:zj):List AV:=[kI x.Number,kI x.Wire,kI x.From,kI x.At,kI x.To]
abbrev zhM (C:List Nat) (x:ze):List AV:=[kI x.Number,.sl (Rp.int .u64) C x.Words,.sl Rp.str C x.Texts,.sl zN C x.Subs]
abbrev zxW (x:zD):List AV:=[kI x.R.Number,kI x.R.Wire,kI x.R.From,kI x.R.At,kI x.R.To,kI x.Field,kB x.Run]
abbrev zeV (x:zi):List AV:=[kI x.Record.Number,kI x.Record.Wire,kI x.Record.From,kI x.Record.At,kI x.Record.To,kI x.Field,kB x.Run]
abbrev ztS (C:List Nat) (x:zh):List AV:=[.sl zy C x.Values,.sl Rp.str C x.Unknown]
abbrev zki (x:zw):List AV:=[kI x.depth,kI x.place,k8 x.e]
abbrev zxX (x:zQ):List AV:=[kI x.field,kB x.run,k8 x.e]
theorem zma (C:List Nat) (x:ze):zgv (zhM C x)=some (zy.lv x):=by rw [zbU]<;>rfl
theorem ztQ (C:List Nat) (x:zh):zgv (ztS C x)=some (zN.lv x):=by rw [zhb]<;>rfl
abbrev zGg:=(⟨isAgg103,sizeOf103⟩:AggT prog 103 _)
abbrev zKu:=(⟨isAgg107,sizeOf107⟩:AggT prog 107 _)
abbrev zOX:=(⟨isAgg178,sizeOf178⟩:AggT prog 178 _)
abbrev zOY:=(⟨isAgg197,sizeOf197⟩:AggT prog 197 _)
abbrev zOZ:=(⟨isAgg229,sizeOf229⟩:AggT prog 229 _)
abbrev zOw:=(⟨isAgg47,sizeOf47⟩:AggT prog 47 _)
abbrev zoj:=(⟨isAgg59,sizeOf59⟩:AggT prog 59 _)
abbrev zwf:=(⟨isAgg62,sizeOf62⟩:AggT prog 62 _)
abbrev zKv:=(⟨isAgg66,sizeOf66⟩:AggT prog 66 _)
abbrev zDJ:=(⟨isAgg68,sizeOf68⟩:AggT prog 68 _)
abbrev zQp:=(⟨isAgg74,sizeOf74⟩:AggT prog 74 _)
abbrev zQq:=(⟨isAgg79,sizeOf79⟩:AggT prog 79 _)
abbrev zQr:=(⟨isAgg86,sizeOf86⟩:AggT prog 86 _)
end Go.Proofs.YtaglemhabeipfaaGreat
