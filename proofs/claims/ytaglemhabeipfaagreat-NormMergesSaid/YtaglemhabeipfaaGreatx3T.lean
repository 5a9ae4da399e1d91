/-
  Facts on the types of the program. No condition.
-/
import Derived.KernelRfl
import Derived.Test.YtaglemhabeipfaaGreatx3K2
import Derived.Test.YtaglemhabeipfaaGreatx3K3
import Derived.Test.YtaglemhabeipfaaGreatx3Ins
import Derived.Test.YtaglemhabeipfaaGreatProg
import Derived.Test.YtaglemhabeipfaaGreatx3S1
namespace Go.Proofs.YtaglemhabeipfaaGreat
open Tryz
open Go Go.RowKit
set_option linter.unusedVariables false
abbrev vv:=Rp.int .i64
abbrev vx:=Rp.int .u64
abbrev vy:=FnOk prog
abbrev vz:=@AV.le_refl
theorem zhj:prog.follows .mixedOrders=true:=by kernel_rfl
theorem znc:ZeT prog 23 62 ze 40 ((⟨[],[]⟩:zg):zg):=ZeT.ofB underlying23 (by kernel_rfl)
theorem zbd:ZeT prog 24 5 Rp.byte 1 (0:UInt8):=ZeT.ofB underlying24 (by kernel_rfl)
theorem zqx:ZeT prog 60 59 zb 48 ((⟨[],0,0,false,false,0⟩:za):za):=ZeT.ofB underlying60 (by kernel_rfl)
theorem zFk:ZeT prog 76 90 (Rp.int .u64) 8 (0:Int):=ZeT.ofB underlying76 (by kernel_rfl)
theorem zHm:ZeT prog 83 3 (Rp.int .i64) 8 (0:Int):=ZeT.ofB underlying83 (by kernel_rfl)
theorem zyB:ZeT prog 96 24 (Rp.list Rp.byte) 24 ([]:(List UInt8)):=ZeT.ofB underlying96 (by kernel_rfl)
theorem zIX:StT prog 59 [(0,1),(1,1),(2,1),(3,1),(4,1),(5,1)] [.str [],.int .i64 0,.int .i64 0,.bool false,.bool false,.int .i64 0]:=StT.ofB underlying59 (by kernel_rfl)
theorem zBk:StT prog 66 [(0,1),(1,1),(2,1),(3,1),(4,1)] [.int .i64 0,.int .i64 0,.int .i64 0,.int .i64 0,.int .i64 0]:=StT.ofB underlying66 (by kernel_rfl)
theorem zxY:StT prog 68 [(0,5),(5,1),(6,1)] [.int .i64 0,.int .i64 0,.int .i64 0,.int .i64 0,.int .i64 0,.int .i64 0,.bool false]:=StT.ofB underlying68 (by kernel_rfl)
theorem zpI:StT prog 103 [(0,1),(1,1),(2,1)] [.int .i64 0,.int .i64 0,.int .u8 0]:=StT.ofB underlying103 (by kernel_rfl)
theorem zEQ:StT prog 158 [(0,1),(1,1)] [.int .i64 0,.int .i64 0]:=StT.ofB underlying158 (by kernel_rfl)
theorem zwc:StT prog 178 [(0,1),(1,1),(2,1)] [.int .i64 0,.int .i64 0,.int .i64 0]:=StT.ofB underlying178 (by kernel_rfl)
theorem zIo:StT prog 195 [(0,1),(1,1)] [.int .i64 0,.int .i64 0]:=StT.ofB underlying195 (by kernel_rfl)
theorem zzI:StT prog 197 [(0,1),(1,1),(2,1)] [.int .i64 0,.bool false,.int .u8 0]:=StT.ofB underlying197 (by kernel_rfl)
theorem zIp:StT prog 225 [(0,1),(1,1),(2,1)] [.int .i64 0,.int .i64 0,.int .i64 0]:=StT.ofB underlying225 (by kernel_rfl)
theorem zwd:StT prog 229 [(0,1),(1,1)] [.int .i64 0,.int .i64 0]:=StT.ofB underlying229 (by kernel_rfl)
theorem zeM:StT prog 260 [(0,1),(1,1)] [.str [],.int .i64 0]:=StT.ofB underlying260 (by kernel_rfl)
theorem zER:StT prog 263 [(0,1),(1,1)] [.int .i64 0,.str []]:=StT.ofB underlying263 (by kernel_rfl)
theorem zIq:StT prog 265 [(0,1),(1,1)] [.int .i64 0,.int .i64 0]:=StT.ofB underlying265 (by kernel_rfl)
theorem zIW:StA prog 62 [(0,1),(1,1)] [kS [],kN]:=StA.ofB underlying62 (by kernel_rfl)
theorem zIh:StA prog 107 [(0,1),(1,1)] [kN,.lf (.val (.map none))]:=StA.ofB underlying107 (by kernel_rfl)
theorem zIi:StA prog 150 [(0,1),(1,1),(2,1)] [kN,kN,.lf (.val (.map none))]:=StA.ofB underlying150 (by kernel_rfl)
theorem zIj:StA prog 218 [(0,1),(1,1),(2,1),(3,1)] [kI 0,kN,.lf (.val (.map none)),.lf (.val (.map none))]:=StA.ofB underlying218 (by kernel_rfl)
theorem zvI:MapT prog 105 158 3 zc (Rp.int .i64) (0:Int):=MapT.ofB underlying105 (zjC underlying158 (by kernel_rfl) rfl (fun _=>by kernel_rfl) (fun a b=>by cases a;cases b;simp [zc,eqL,leq,Bool.decide_and,Bool.beq_eq_decide_eq])) (by kernel_rfl)
theorem zAJ:MapT prog 148 225 68 zm zh ((⟨(⟨0,0,0,0,0⟩:zo),0,false⟩:zf):zf):=MapT.ofB underlying148 (zjC underlying225 (by kernel_rfl) rfl (fun _=>by kernel_rfl) (fun a b=>by cases a;cases b;simp [zm,eqL,leq,Bool.decide_and,Bool.beq_eq_decide_eq])) (by kernel_rfl)
theorem zvJ:MapT prog 152 3 24 (Rp.int .i64) (Rp.list Rp.byte) ([]:(List UInt8)):=MapT.ofB underlying152 (zxh underlying3) (by kernel_rfl)
theorem zAK:MapT prog 160 195 197 zab zak ((⟨0,false,0⟩:zN):zN):=MapT.ofB underlying160 (zjC underlying195 (by kernel_rfl) rfl (fun _=>by kernel_rfl) (fun a b=>by cases a;cases b;simp [zab,eqL,leq,Bool.decide_and,Bool.beq_eq_decide_eq])) (by kernel_rfl)
theorem zqY:MapT prog 215 263 4 zv Rp.bool (false:Bool):=MapT.ofB underlying215 (zjC underlying263 (by kernel_rfl) rfl (fun _=>by kernel_rfl) (fun a b=>by cases a;cases b;simp [zv,eqL,leq,Bool.decide_and,Bool.beq_eq_decide_eq])) (by kernel_rfl)
theorem zAL:MapT prog 216 265 4 zc Rp.bool (false:Bool):=MapT.ofB underlying216 (zjC underlying265 (by kernel_rfl) rfl (fun _=>by kernel_rfl) (fun a b=>by cases a;cases b;simp [zc,eqL,leq,Bool.decide_and,Bool.beq_eq_decide_eq])) (by kernel_rfl)
theorem zdn:MapT prog 258 3 260 (Rp.int .i64) zaa ((⟨[],0⟩:zq):zq):=MapT.ofB underlying258 (zxh underlying3) (by kernel_rfl)
abbrev zkO (x:zad):List AV:=[kI x.Message,kI x.Field,kI x.What]
abbrev zan (C:List Nat) (x:zg):List AV:=[kS x.Name,.sl zb C x.Fields]
abbrev zO (x:za):List AV:=[kS x.Name,kI x.Number,kI x.Kind,kB x.Repeated,kB x.Packed,kI x.Of]
abbrev zaL (x:zo):List AV:=[kI x.Number,kI x.Wire,kI x.From,kI x.At,kI x.To]
abbrev zcM (x:zf):List AV:=[kI x.Record.Number,kI x.Record.Wire,kI x.Record.From,kI x.Record.At,kI x.Record.To,kI x.Field,kB x.Run]
abbrev zgy (x:zu):List AV:=[kI x.depth,kI x.place,k8 x.e]
abbrev zrB (x:zN):List AV:=[kI x.field,kB x.run,k8 x.e]
abbrev zyF:=(⟨isAgg103,sizeOf103⟩:AggT prog 103 _)
abbrev zCM:=(⟨isAgg107,sizeOf107⟩:AggT prog 107 _)
abbrev zHq:=(⟨isAgg178,sizeOf178⟩:AggT prog 178 _)
abbrev zHr:=(⟨isAgg197,sizeOf197⟩:AggT prog 197 _)
abbrev zHs:=(⟨isAgg229,sizeOf229⟩:AggT prog 229 _)
abbrev zpQ:=(⟨isAgg59,sizeOf59⟩:AggT prog 59 _)
abbrev zCN:=(⟨isAgg62,sizeOf62⟩:AggT prog 62 _)
abbrev zCO:=(⟨isAgg66,sizeOf66⟩:AggT prog 66 _)
abbrev zCP:=(⟨isAgg68,sizeOf68⟩:AggT prog 68 _)
end Go.Proofs.YtaglemhabeipfaaGreat
