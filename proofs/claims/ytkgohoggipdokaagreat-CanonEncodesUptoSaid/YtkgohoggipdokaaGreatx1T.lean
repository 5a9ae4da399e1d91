/-
  Facts on the types of the program. No condition.
-/
import Derived.KernelRfl
import Derived.Test.YtkgohoggipdokaaGreatx1K2
import Derived.Test.YtkgohoggipdokaaGreatProg
import Derived.Test.YtkgohoggipdokaaGreatx1S1
namespace Go.Proofs.YtkgohoggipdokaaGreat
open Tryz
open Go Go.RowKit
set_option linter.unusedVariables false
abbrev vR:=Rp.int .i64
abbrev vS:=Rp.int .u64
abbrev vT:=FnOk prog
abbrev vU:=@AV.le_refl
theorem zcM:prog.follows .mixedOrders=true:=by kernel_rfl
theorem zgU:ZeT prog 23 71 zi 40 ((⟨[],[]⟩:zd):zd):=ZeT.ofB underlying23 (by kernel_rfl)
theorem zwc:ZeT prog 24 51 zf 80 ((⟨0,[],[],[]⟩:za):za):=ZeT.ofB underlying24 (by kernel_rfl)
theorem zlj:ZeT prog 25 9 Rp.str 16 ([]:Str):=ZeT.ofB underlying25 (by kernel_rfl)
theorem zoA:ZeT prog 31 55 zf 80 ((⟨0,[],[],[]⟩:za):za):=ZeT.ofB underlying31 (by kernel_rfl)
theorem zcd:ZeT prog 35 5 Rp.byte 1 (0:UInt8):=ZeT.ofB underlying35 (by kernel_rfl)
theorem zwd:ZeT prog 42 33 zh 48 ((⟨[],[]⟩:zc):zc):=ZeT.ofB underlying42 (by kernel_rfl)
theorem zuv:ZeT prog 48 72 (Rp.int .u64) 8 (0:Int):=ZeT.ofB underlying48 (by kernel_rfl)
theorem zyZ:ZeT prog 49 27 zh 48 ((⟨[],[]⟩:zc):zc):=ZeT.ofB underlying49 (by kernel_rfl)
theorem zms:ZeT prog 69 47 ze 48 ((⟨[],0,0,false,false,0⟩:zb):zb):=ZeT.ofB underlying69 (by kernel_rfl)
theorem zqX:ZeT prog 74 35 (Rp.list Rp.byte) 24 ([]:(List UInt8)):=ZeT.ofB underlying74 (by kernel_rfl)
theorem zEe:ZeT prog 99 3 (Rp.int .i64) 8 (0:Int):=ZeT.ofB underlying99 (by kernel_rfl)
theorem zHu:StT prog 47 [(0,1),(1,1),(2,1),(3,1),(4,1),(5,1)] [.str [],.int .i64 0,.int .i64 0,.bool false,.bool false,.int .i64 0]:=StT.ofB underlying47 (by kernel_rfl)
theorem zpS:StT prog 102 [(0,1),(1,1),(2,1),(3,1),(4,1)] [.int .i64 0,.int .i64 0,.int .i64 0,.int .i64 0,.int .i64 0]:=StT.ofB underlying102 (by kernel_rfl)
theorem zwX:StT prog 126 [(0,1),(1,1),(2,1)] [.int .i64 0,.int .i64 0,.int .i64 0]:=StT.ofB underlying126 (by kernel_rfl)
theorem zwY:StT prog 152 [(0,1),(1,1),(2,1),(3,1),(4,1)] [.int .i64 0,.int .i64 0,.int .i64 0,.int .i64 0,.int .i64 0]:=StT.ofB underlying152 (by kernel_rfl)
theorem zwZ:StT prog 224 [(0,1),(1,1)] [.int .i64 0,.int .i64 0]:=StT.ofB underlying224 (by kernel_rfl)
theorem zgF:StT prog 230 [(0,1),(1,1)] [.str [],.int .i64 0]:=StT.ofB underlying230 (by kernel_rfl)
theorem zDL:StT prog 233 [(0,1),(1,1)] [.int .i64 0,.str []]:=StT.ofB underlying233 (by kernel_rfl)
theorem zGD:StT prog 235 [(0,1),(1,1)] [.int .i64 0,.int .i64 0]:=StT.ofB underlying235 (by kernel_rfl)
theorem zHp:StA prog 27 [(0,1),(1,1)] [kN,kN]:=StA.ofB underlying27 (by kernel_rfl)
theorem zHq:StA prog 33 [(0,1),(1,1)] [kN,kN]:=StA.ofB underlying33 (by kernel_rfl)
theorem zHr:StA prog 51 [(0,1),(1,1),(2,1),(3,1)] [kI 0,kN,kN,kN]:=StA.ofB underlying51 (by kernel_rfl)
theorem zHs:StA prog 55 [(0,1),(1,1),(2,1),(3,1)] [kI 0,kN,kN,kN]:=StA.ofB underlying55 (by kernel_rfl)
theorem zHt:StA prog 71 [(0,1),(1,1)] [kS [],kN]:=StA.ofB underlying71 (by kernel_rfl)
theorem zGC:StA prog 187 [(0,1),(1,1),(2,1),(3,1)] [kI 0,kN,.lf (.val (.map none)),.lf (.val (.map none))]:=StA.ofB underlying187 (by kernel_rfl)
theorem zGQ:ByT prog 35 5:=ByT.ofB underlying35 (by kernel_rfl)
theorem zsB:MapT prog 184 233 4 zD Rp.bool (false:Bool):=MapT.ofB underlying184 (zvq underlying233 (by kernel_rfl) rfl (fun _=>by kernel_rfl) (fun a b=>by cases a;cases b;simp [zD,eqL,leq,Bool.decide_and,Bool.beq_eq_decide_eq])) (by kernel_rfl)
theorem zAE:MapT prog 185 235 4 zE Rp.bool (false:Bool):=MapT.ofB underlying185 (zvq underlying235 (by kernel_rfl) rfl (fun _=>by kernel_rfl) (fun a b=>by cases a;cases b;simp [zE,eqL,leq,Bool.decide_and,Bool.beq_eq_decide_eq])) (by kernel_rfl)
theorem zeU:MapT prog 228 3 230 (Rp.int .i64) zan ((⟨[],0⟩:zo):zo):=MapT.ofB underlying228 (zCJ underlying3) (by kernel_rfl)
abbrev zio (C1:List Nat) (C2:List Nat) (x:za):List AV:=[kI x.Number,.sl (Rp.int .u64) C1 x.Words,.sl Rp.str C2 x.Texts,kN]
abbrev zav (C1:List Nat) (C2:List Nat) (l3:Nat) (C3:List Nat) (x:za):List AV:=[kI x.Number,.sl (Rp.int .u64) C1 x.Words,.sl Rp.str C2 x.Texts,.own zh 33 l3 C3 x.Subs]
abbrev zaq (l1:Nat) (C1:List Nat) (l2:Nat) (C2:List Nat) (x:zc):List AV:=[.own zf 55 l1 C1 x.Values,.own Rp.str 9 l2 C2 x.Unknown]
abbrev zj (l1:Nat) (C1:List Nat) (x:zg):List AV:=[.own (Rp.list Rp.byte) 35 l1 C1 x.pieces,kI x.size]
abbrev zne (x:zaw):List AV:=[kI x.Message,kI x.Field,kI x.What]
abbrev zbj (C:List Nat) (x:zd):List AV:=[kS x.Name,.sl ze C x.Fields]
abbrev ztb (x:zP):List AV:=[kI x.Number,kI x.Wire]
abbrev zgO (x:zn):List AV:=[kI x.Number,kI x.Wire,kI x.From,kI x.At,kI x.To]
abbrev zM (C:List Nat) (x:za):List AV:=[kI x.Number,.sl (Rp.int .u64) C x.Words,.sl Rp.str C x.Texts,.sl zh C x.Subs]
theorem zca (C:List Nat) (x:za):AV.le (.ag (zM C x)) (.rc zf C x):=fun _ _ _ ⟨vs,hv,hL,_⟩=>⟨vs,hv,zhG (by rw [zF]<;>rfl) hL (fun c hc=>by simpa [zM,AV.colsL,AV.cols] using hc)⟩
abbrev zbk (C:List Nat) (x:zc):List AV:=[.sl zf C x.Values,.sl Rp.str C x.Unknown]
theorem zZ (C:List Nat) (x:zc):AV.le (.ag (zbk C x)) (.rc zh C x):=fun _ _ _ ⟨vs,hv,hL,_⟩=>⟨vs,hv,zhG (by rw [zaQ]<;>rfl) hL (fun c hc=>by simpa [zbk,AV.colsL,AV.cols] using hc)⟩
theorem zdl (C:List Nat) (x:za):zfA (zM C x)=some (zf.lv x):=by rw [zF]<;>rfl
theorem zas (C:List Nat) (x:zc):zfA (zbk C x)=some (zh.lv x):=by rw [zaQ]<;>rfl
abbrev zFS:=(⟨isAgg102,sizeOf102⟩:AggT prog 102 _)
abbrev zFT:=(⟨isAgg126,sizeOf126⟩:AggT prog 126 _)
abbrev zFU:=(⟨isAgg152,sizeOf152⟩:AggT prog 152 _)
abbrev zFV:=(⟨isAgg224,sizeOf224⟩:AggT prog 224 _)
abbrev zxm:=(⟨isAgg27,sizeOf27⟩:AggT prog 27 _)
abbrev zzX:=(⟨isAgg33,sizeOf33⟩:AggT prog 33 _)
abbrev zrH:=(⟨isAgg47,sizeOf47⟩:AggT prog 47 _)
abbrev zsQ:=(⟨isAgg51,sizeOf51⟩:AggT prog 51 _)
abbrev zzY:=(⟨isAgg55,sizeOf55⟩:AggT prog 55 _)
abbrev zuZ:=(⟨isAgg71,sizeOf71⟩:AggT prog 71 _)
end Go.Proofs.YtkgohoggipdokaaGreat
