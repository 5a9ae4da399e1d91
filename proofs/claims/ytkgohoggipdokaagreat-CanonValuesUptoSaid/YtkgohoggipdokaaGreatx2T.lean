/-
  Facts on the types of the program. No condition.
-/
import Derived.KernelRfl
import Derived.Test.YtkgohoggipdokaaGreatx2K2
import Derived.Test.YtkgohoggipdokaaGreatProg
import Derived.Test.YtkgohoggipdokaaGreatx2S1
namespace Go.Proofs.YtkgohoggipdokaaGreat
open Tryz
open Go Go.RowKit
set_option linter.unusedVariables false
abbrev vR:=Rp.int .i64
abbrev vS:=Rp.int .u64
abbrev vT:=FnOk prog
abbrev vU:=@AV.le_refl
theorem zcM:prog.follows .mixedOrders=true:=by kernel_rfl
theorem zgU:ZeT prog 23 71 zh 40 ((⟨[],[]⟩:ze):ze):=ZeT.ofB underlying23 (by kernel_rfl)
theorem zup:ZeT prog 24 51 zf 80 ((⟨0,[],[],[]⟩:za):za):=ZeT.ofB underlying24 (by kernel_rfl)
theorem zlg:ZeT prog 25 9 Rp.str 16 ([]:Str):=ZeT.ofB underlying25 (by kernel_rfl)
theorem zox:ZeT prog 31 55 zf 80 ((⟨0,[],[],[]⟩:za):za):=ZeT.ofB underlying31 (by kernel_rfl)
theorem zcd:ZeT prog 35 5 Rp.byte 1 (0:UInt8):=ZeT.ofB underlying35 (by kernel_rfl)
theorem zAR:ZeT prog 42 33 zi 48 ((⟨[],[]⟩:zc):zc):=ZeT.ofB underlying42 (by kernel_rfl)
theorem zuq:ZeT prog 48 72 (Rp.int .u64) 8 (0:Int):=ZeT.ofB underlying48 (by kernel_rfl)
theorem zyR:ZeT prog 49 27 zi 48 ((⟨[],[]⟩:zc):zc):=ZeT.ofB underlying49 (by kernel_rfl)
theorem zmr:ZeT prog 69 47 zd 48 ((⟨[],0,0,false,false,0⟩:zb):zb):=ZeT.ofB underlying69 (by kernel_rfl)
theorem zqQ:ZeT prog 74 35 (Rp.list Rp.byte) 24 ([]:(List UInt8)):=ZeT.ofB underlying74 (by kernel_rfl)
theorem zDY:ZeT prog 99 3 (Rp.int .i64) 8 (0:Int):=ZeT.ofB underlying99 (by kernel_rfl)
theorem zHn:StT prog 47 [(0,1),(1,1),(2,1),(3,1),(4,1),(5,1)] [.str [],.int .i64 0,.int .i64 0,.bool false,.bool false,.int .i64 0]:=StT.ofB underlying47 (by kernel_rfl)
theorem zpL:StT prog 102 [(0,1),(1,1),(2,1),(3,1),(4,1)] [.int .i64 0,.int .i64 0,.int .i64 0,.int .i64 0,.int .i64 0]:=StT.ofB underlying102 (by kernel_rfl)
theorem zwP:StT prog 126 [(0,1),(1,1),(2,1)] [.int .i64 0,.int .i64 0,.int .i64 0]:=StT.ofB underlying126 (by kernel_rfl)
theorem zwQ:StT prog 152 [(0,1),(1,1),(2,1),(3,1),(4,1)] [.int .i64 0,.int .i64 0,.int .i64 0,.int .i64 0,.int .i64 0]:=StT.ofB underlying152 (by kernel_rfl)
theorem zwR:StT prog 224 [(0,1),(1,1)] [.int .i64 0,.int .i64 0]:=StT.ofB underlying224 (by kernel_rfl)
theorem zgH:StT prog 230 [(0,1),(1,1)] [.str [],.int .i64 0]:=StT.ofB underlying230 (by kernel_rfl)
theorem zDE:StT prog 233 [(0,1),(1,1)] [.int .i64 0,.str []]:=StT.ofB underlying233 (by kernel_rfl)
theorem zGz:StT prog 235 [(0,1),(1,1)] [.int .i64 0,.int .i64 0]:=StT.ofB underlying235 (by kernel_rfl)
theorem zFK:StA prog 27 [(0,1),(1,1)] [kN,kN]:=StA.ofB underlying27 (by kernel_rfl)
theorem zHj:StA prog 33 [(0,1),(1,1)] [kN,kN]:=StA.ofB underlying33 (by kernel_rfl)
theorem zHk:StA prog 51 [(0,1),(1,1),(2,1),(3,1)] [kI 0,kN,kN,kN]:=StA.ofB underlying51 (by kernel_rfl)
theorem zHl:StA prog 55 [(0,1),(1,1),(2,1),(3,1)] [kI 0,kN,kN,kN]:=StA.ofB underlying55 (by kernel_rfl)
theorem zHm:StA prog 71 [(0,1),(1,1)] [kS [],kN]:=StA.ofB underlying71 (by kernel_rfl)
theorem zGy:StA prog 187 [(0,1),(1,1),(2,1),(3,1)] [kI 0,kN,.lf (.val (.map none)),.lf (.val (.map none))]:=StA.ofB underlying187 (by kernel_rfl)
theorem zGM:ByT prog 35 5:=ByT.ofB underlying35 (by kernel_rfl)
theorem zsu:MapT prog 184 233 4 zE Rp.bool (false:Bool):=MapT.ofB underlying184 (zvl underlying233 (by kernel_rfl) rfl (fun _=>by kernel_rfl) (fun a b=>by cases a;cases b;simp [zE,eqL,leq,Bool.decide_and,Bool.beq_eq_decide_eq])) (by kernel_rfl)
theorem zAw:MapT prog 185 235 4 zG Rp.bool (false:Bool):=MapT.ofB underlying185 (zvl underlying235 (by kernel_rfl) rfl (fun _=>by kernel_rfl) (fun a b=>by cases a;cases b;simp [zG,eqL,leq,Bool.decide_and,Bool.beq_eq_decide_eq])) (by kernel_rfl)
theorem zeV:MapT prog 228 3 230 (Rp.int .i64) zar ((⟨[],0⟩:zo):zo):=MapT.ofB underlying228 (zCC underlying3) (by kernel_rfl)
abbrev zik (C1:List Nat) (C2:List Nat) (x:za):List AV:=[kI x.Number,.sl (Rp.int .u64) C1 x.Words,.sl Rp.str C2 x.Texts,kN]
abbrev zP (C1:List Nat) (C2:List Nat) (l3:Nat) (C3:List Nat) (x:za):List AV:=[kI x.Number,.sl (Rp.int .u64) C1 x.Words,.sl Rp.str C2 x.Texts,.own zi 33 l3 C3 x.Subs]
abbrev zbG (l1:Nat) (C1:List Nat) (l2:Nat) (C2:List Nat) (x:zc):List AV:=[.own zf 55 l1 C1 x.Values,.own Rp.str 9 l2 C2 x.Unknown]
abbrev zj (l1:Nat) (C1:List Nat) (x:zg):List AV:=[.own (Rp.list Rp.byte) 35 l1 C1 x.pieces,kI x.size]
abbrev zna (x:zaw):List AV:=[kI x.Message,kI x.Field,kI x.What]
abbrev zbg (C:List Nat) (x:ze):List AV:=[kS x.Name,.sl zd C x.Fields]
abbrev zsU (x:zQ):List AV:=[kI x.Number,kI x.Wire]
abbrev zgP (x:zn):List AV:=[kI x.Number,kI x.Wire,kI x.From,kI x.At,kI x.To]
abbrev zB (C:List Nat) (x:za):List AV:=[kI x.Number,.sl (Rp.int .u64) C x.Words,.sl Rp.str C x.Texts,.sl zi C x.Subs]
theorem zam (C:List Nat) (x:za):AV.le (.ag (zB C x)) (.rc zf C x):=fun _ _ _ ⟨vs,hv,hL,_⟩=>⟨vs,hv,zhC (by rw [zt]<;>rfl) hL (fun c hc=>by simpa [zB,AV.colsL,AV.cols] using hc)⟩
abbrev zbC (C:List Nat) (x:zc):List AV:=[.sl zf C x.Values,.sl Rp.str C x.Unknown]
theorem zbh (C:List Nat) (x:zc):AV.le (.ag (zbC C x)) (.rc zi C x):=fun _ _ _ ⟨vs,hv,hL,_⟩=>⟨vs,hv,zhC (by rw [zbu]<;>rfl) hL (fun c hc=>by simpa [zbC,AV.colsL,AV.cols] using hc)⟩
theorem zdk (C:List Nat) (x:za):zfE (zB C x)=some (zf.lv x):=by rw [zt]<;>rfl
theorem zaM (C:List Nat) (x:zc):zfE (zbC C x)=some (zi.lv x):=by rw [zbu]<;>rfl
abbrev zFO:=(⟨isAgg102,sizeOf102⟩:AggT prog 102 _)
abbrev zFP:=(⟨isAgg126,sizeOf126⟩:AggT prog 126 _)
abbrev zFQ:=(⟨isAgg152,sizeOf152⟩:AggT prog 152 _)
abbrev zFR:=(⟨isAgg224,sizeOf224⟩:AggT prog 224 _)
abbrev zxh:=(⟨isAgg27,sizeOf27⟩:AggT prog 27 _)
abbrev zBU:=(⟨isAgg33,sizeOf33⟩:AggT prog 33 _)
abbrev zrB:=(⟨isAgg47,sizeOf47⟩:AggT prog 47 _)
abbrev zsJ:=(⟨isAgg51,sizeOf51⟩:AggT prog 51 _)
abbrev zzO:=(⟨isAgg55,sizeOf55⟩:AggT prog 55 _)
abbrev zuU:=(⟨isAgg71,sizeOf71⟩:AggT prog 71 _)
end Go.Proofs.YtkgohoggipdokaaGreat
