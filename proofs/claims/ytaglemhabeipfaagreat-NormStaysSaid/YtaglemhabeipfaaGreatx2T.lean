/-
  Facts on the types of the program. No condition.
-/
import Derived.KernelRfl
import Derived.Test.YtaglemhabeipfaaGreatx2K2
import Derived.Test.YtaglemhabeipfaaGreatx2K3
import Derived.Test.YtaglemhabeipfaaGreatx2Ins
import Derived.Test.YtaglemhabeipfaaGreatProg
import Derived.Test.YtaglemhabeipfaaGreatx2S1
namespace Go.Proofs.YtaglemhabeipfaaGreat
open Tryz
open Go Go.RowKit
set_option linter.unusedVariables false
abbrev wI:=Rp.int .i64
abbrev wK:=Rp.int .u64
abbrev wL:=FnOk prog
abbrev wM:=@AV.le_refl
theorem zee:prog.follows .mixedOrders=true:=by kernel_rfl
theorem znp:ZeT prog 23 62 zf 40 ((⟨[],[]⟩:ze):ze):=ZeT.ofB underlying23 (by kernel_rfl)
theorem zcd:ZeT prog 24 5 Rp.byte 1 (0:UInt8):=ZeT.ofB underlying24 (by kernel_rfl)
theorem zqZ:ZeT prog 45 9 Rp.str 16 ([]:Str):=ZeT.ofB underlying45 (by kernel_rfl)
theorem zxT:ZeT prog 50 133 zk 80 ((⟨0,[],[],[]⟩:zb):zb):=ZeT.ofB underlying50 (by kernel_rfl)
theorem zoq:ZeT prog 60 59 zc 48 ((⟨[],0,0,false,false,0⟩:za):za):=ZeT.ofB underlying60 (by kernel_rfl)
theorem zra:ZeT prog 63 68 zj 56 ((⟨(⟨0,0,0,0,0⟩:zt),0,false⟩:zg):zg):=ZeT.ofB underlying63 (by kernel_rfl)
theorem zxU:ZeT prog 76 90 (Rp.int .u64) 8 (0:Int):=ZeT.ofB underlying76 (by kernel_rfl)
theorem zKR:ZeT prog 83 3 (Rp.int .i64) 8 (0:Int):=ZeT.ofB underlying83 (by kernel_rfl)
theorem znq:ZeT prog 96 24 (Rp.list Rp.byte) 24 ([]:(List UInt8)):=ZeT.ofB underlying96 (by kernel_rfl)
theorem zrF:ZeT prog 131 52 zm 48 ((⟨[],[]⟩:zd):zd):=ZeT.ofB underlying131 (by kernel_rfl)
theorem ziz:zj.Plain:=fun x=>by simp [zj,LV.plain]
theorem zOy:StT prog 59 [(0,1),(1,1),(2,1),(3,1),(4,1),(5,1)] [.str [],.int .i64 0,.int .i64 0,.bool false,.bool false,.int .i64 0]:=StT.ofB underlying59 (by kernel_rfl)
theorem zGG:StT prog 66 [(0,1),(1,1),(2,1),(3,1),(4,1)] [.int .i64 0,.int .i64 0,.int .i64 0,.int .i64 0,.int .i64 0]:=StT.ofB underlying66 (by kernel_rfl)
theorem zDg:StT prog 68 [(0,5),(5,1),(6,1)] [.int .i64 0,.int .i64 0,.int .i64 0,.int .i64 0,.int .i64 0,.int .i64 0,.bool false]:=StT.ofB underlying68 (by kernel_rfl)
theorem ztT:StT prog 103 [(0,1),(1,1),(2,1)] [.int .i64 0,.int .i64 0,.int .u8 0]:=StT.ofB underlying103 (by kernel_rfl)
theorem zKt:StT prog 158 [(0,1),(1,1)] [.int .i64 0,.int .i64 0]:=StT.ofB underlying158 (by kernel_rfl)
theorem zBg:StT prog 178 [(0,1),(1,1),(2,1)] [.int .i64 0,.int .i64 0,.int .i64 0]:=StT.ofB underlying178 (by kernel_rfl)
theorem zNP:StT prog 195 [(0,1),(1,1)] [.int .i64 0,.int .i64 0]:=StT.ofB underlying195 (by kernel_rfl)
theorem zFa:StT prog 197 [(0,1),(1,1),(2,1)] [.int .i64 0,.bool false,.int .u8 0]:=StT.ofB underlying197 (by kernel_rfl)
theorem zNQ:StT prog 225 [(0,1),(1,1),(2,1)] [.int .i64 0,.int .i64 0,.int .i64 0]:=StT.ofB underlying225 (by kernel_rfl)
theorem zBh:StT prog 229 [(0,1),(1,1)] [.int .i64 0,.int .i64 0]:=StT.ofB underlying229 (by kernel_rfl)
theorem zgP:StT prog 260 [(0,1),(1,1)] [.str [],.int .i64 0]:=StT.ofB underlying260 (by kernel_rfl)
theorem zKu:StT prog 263 [(0,1),(1,1)] [.int .i64 0,.str []]:=StT.ofB underlying263 (by kernel_rfl)
theorem zNR:StT prog 265 [(0,1),(1,1)] [.int .i64 0,.int .i64 0]:=StT.ofB underlying265 (by kernel_rfl)
theorem zOw:StA prog 52 [(0,1),(1,1)] [kN,kN]:=StA.ofB underlying52 (by kernel_rfl)
theorem zOx:StA prog 62 [(0,1),(1,1)] [kS [],kN]:=StA.ofB underlying62 (by kernel_rfl)
theorem zNH:StA prog 107 [(0,1),(1,1)] [kN,.lf (.val (.map none))]:=StA.ofB underlying107 (by kernel_rfl)
theorem zNI:StA prog 133 [(0,1),(1,1),(2,1),(3,1)] [kI 0,kN,kN,kN]:=StA.ofB underlying133 (by kernel_rfl)
theorem zNJ:StA prog 150 [(0,1),(1,1),(2,1)] [kN,kN,.lf (.val (.map none))]:=StA.ofB underlying150 (by kernel_rfl)
theorem zNK:StA prog 218 [(0,1),(1,1),(2,1),(3,1)] [kI 0,kN,.lf (.val (.map none)),.lf (.val (.map none))]:=StA.ofB underlying218 (by kernel_rfl)
theorem zAF:MapT prog 105 158 3 zh (Rp.int .i64) (0:Int):=MapT.ofB underlying105 (zmL underlying158 (by kernel_rfl) rfl (fun _=>by kernel_rfl) (fun a b=>by cases a;cases b;simp [zh,eqL,leq,Bool.decide_and,Bool.beq_eq_decide_eq])) (by kernel_rfl)
theorem zAG:MapT prog 126 3 63 (Rp.int .i64) (Rp.list zj) ([]:(List zg)):=MapT.ofB underlying126 (zwx underlying3) (by kernel_rfl)
theorem zGf:MapT prog 148 225 68 zq zj ((⟨(⟨0,0,0,0,0⟩:zt),0,false⟩:zg):zg):=MapT.ofB underlying148 (zmL underlying225 (by kernel_rfl) rfl (fun _=>by kernel_rfl) (fun a b=>by cases a;cases b;simp [zq,eqL,leq,Bool.decide_and,Bool.beq_eq_decide_eq])) (by kernel_rfl)
theorem zAH:MapT prog 152 3 24 (Rp.int .i64) (Rp.list Rp.byte) ([]:(List UInt8)):=MapT.ofB underlying152 (zwx underlying3) (by kernel_rfl)
theorem zGg:MapT prog 160 195 197 zal zao ((⟨0,false,0⟩:zab):zab):=MapT.ofB underlying160 (zmL underlying195 (by kernel_rfl) rfl (fun _=>by kernel_rfl) (fun a b=>by cases a;cases b;simp [zal,eqL,leq,Bool.decide_and,Bool.beq_eq_decide_eq])) (by kernel_rfl)
theorem zvs:MapT prog 215 263 4 zL Rp.bool (false:Bool):=MapT.ofB underlying215 (zmL underlying263 (by kernel_rfl) rfl (fun _=>by kernel_rfl) (fun a b=>by cases a;cases b;simp [zL,eqL,leq,Bool.decide_and,Bool.beq_eq_decide_eq])) (by kernel_rfl)
theorem zGh:MapT prog 216 265 4 zh Rp.bool (false:Bool):=MapT.ofB underlying216 (zmL underlying265 (by kernel_rfl) rfl (fun _=>by kernel_rfl) (fun a b=>by cases a;cases b;simp [zh,eqL,leq,Bool.decide_and,Bool.beq_eq_decide_eq])) (by kernel_rfl)
theorem zeS:MapT prog 258 3 260 (Rp.int .i64) zaH ((⟨[],0⟩:zw):zw):=MapT.ofB underlying258 (zwx underlying3) (by kernel_rfl)
abbrev zae (l1:Nat) (C1:List Nat) (l2:Nat) (C2:List Nat) (l3:Nat) (C3:List Nat) (x:zb):List AV:=[kI x.Number,.own (Rp.int .u64) 90 l1 C1 x.Words,.own Rp.str 9 l2 C2 x.Texts,.own zm 52 l3 C3 x.Subs]
abbrev zC (l1:Nat) (C1:List Nat) (l2:Nat) (C2:List Nat) (x:zd):List AV:=[.own zk 133 l1 C1 x.Values,.own Rp.str 9 l2 C2 x.Unknown]
abbrev zr (l1:Nat) (C1:List Nat) (x:zn):List AV:=[.own (Rp.list Rp.byte) 24 l1 C1 x.pieces,kI x.size]
abbrev zos (x:zaP):List AV:=[kI x.Message,kI x.Field,kI x.What]
abbrev zW (C:List Nat) (x:ze):List AV:=[kS x.Name,.sl zc C x.Fields]
abbrev zaf (x:za):List AV:=[kS x.Name,kI x.Number,kI x.Kind,kB x.Repeated,kB x.Packed,kI x.Of]
abbrev zbF (x:zt):List AV:=[kI x.Number,kI x.Wire,kI x.From,kI x.At,kI x.To]
abbrev zX (C:List Nat) (x:zb):List AV:=[kI x.Number,.sl (Rp.int .u64) C x.Words,.sl Rp.str C x.Texts,.sl zm C x.Subs]
theorem zbY (C:List Nat) (x:zb):AV.le (.ag (zX C x)) (.rc zk C x):=fun _ _ _ ⟨vs,hv,hL,_⟩=>⟨vs,hv,zhe (by rw [zan]<;>rfl) hL (fun c hc=>by simpa [zX,AV.colsL,AV.cols] using hc)⟩
abbrev zcj (x:zg):List AV:=[kI x.Record.Number,kI x.Record.Wire,kI x.Record.From,kI x.Record.At,kI x.Record.To,kI x.Field,kB x.Run]
abbrev zaK (C:List Nat) (x:zd):List AV:=[.sl zk C x.Values,.sl Rp.str C x.Unknown]
theorem zaz (C:List Nat) (x:zd):AV.le (.ag (zaK C x)) (.rc zm C x):=fun _ _ _ ⟨vs,hv,hL,_⟩=>⟨vs,hv,zhe (by rw [zaq]<;>rfl) hL (fun c hc=>by simpa [zaK,AV.colsL,AV.cols] using hc)⟩
abbrev zjc (x:zA):List AV:=[kI x.depth,kI x.place,k8 x.e]
abbrev zwb (x:zab):List AV:=[kI x.field,kB x.run,k8 x.e]
theorem zeH (C:List Nat) (x:zb):zfj (zX C x)=some (zk.lv x):=by rw [zan]<;>rfl
theorem zbd (C:List Nat) (x:zd):zfj (zaK C x)=some (zm.lv x):=by rw [zaq]<;>rfl
abbrev zDP:=(⟨isAgg103,sizeOf103⟩:AggT prog 103 _)
abbrev zIs:=(⟨isAgg107,sizeOf107⟩:AggT prog 107 _)
abbrev zoE:=(⟨isAgg133,sizeOf133⟩:AggT prog 133 _)
abbrev zMR:=(⟨isAgg178,sizeOf178⟩:AggT prog 178 _)
abbrev zMS:=(⟨isAgg197,sizeOf197⟩:AggT prog 197 _)
abbrev zMT:=(⟨isAgg229,sizeOf229⟩:AggT prog 229 _)
abbrev zoF:=(⟨isAgg52,sizeOf52⟩:AggT prog 52 _)
abbrev zoe:=(⟨isAgg59,sizeOf59⟩:AggT prog 59 _)
abbrev zyA:=(⟨isAgg62,sizeOf62⟩:AggT prog 62 _)
abbrev zIt:=(⟨isAgg66,sizeOf66⟩:AggT prog 66 _)
abbrev zul:=(⟨isAgg68,sizeOf68⟩:AggT prog 68 _)
end Go.Proofs.YtaglemhabeipfaaGreat
