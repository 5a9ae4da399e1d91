/-
  Facts on the types of the program. No condition.
-/
import Derived.KernelRfl
import Derived.Test.YtkgohoggipdokaaGreatx3K2
import Derived.Test.YtkgohoggipdokaaGreatProg
import Derived.Test.YtkgohoggipdokaaGreatx3K3
import Derived.Test.YtkgohoggipdokaaGreatx3S1
namespace Go.Proofs.YtkgohoggipdokaaGreat
open Tryz
open Go Go.RowKit
set_option linter.unusedVariables false
abbrev wj:=Rp.int .i64
abbrev wk:=Rp.int .u64
abbrev wo:=FnOk prog
abbrev wr:=Rp.list Rp.str
abbrev ws:=@AV.le_refl
theorem zeY:prog.follows .mixedOrders=true:=by kernel_rfl
theorem zpp:ZeT prog 23 71 zj 40 ((⟨[],[]⟩:ze):ze):=ZeT.ofB underlying23 (by kernel_rfl)
theorem zjX:ZeT prog 24 51 zd 80 ((⟨0,[],[],[]⟩:za):za):=ZeT.ofB underlying24 (by kernel_rfl)
theorem zjY:ZeT prog 25 9 Rp.str 16 ([]:Str):=ZeT.ofB underlying25 (by kernel_rfl)
theorem zej:ZeT prog 35 5 Rp.byte 1 (0:UInt8):=ZeT.ofB underlying35 (by kernel_rfl)
theorem zng:ZeT prog 48 72 (Rp.int .u64) 8 (0:Int):=ZeT.ofB underlying48 (by kernel_rfl)
theorem zjm:ZeT prog 49 27 zg 48 ((⟨[],[]⟩:zb):zb):=ZeT.ofB underlying49 (by kernel_rfl)
theorem zqJ:ZeT prog 69 47 zf 48 ((⟨[],0,0,false,false,0⟩:zc):zc):=ZeT.ofB underlying69 (by kernel_rfl)
theorem zot:ZeT prog 74 35 (Rp.list Rp.byte) 24 ([]:(List UInt8)):=ZeT.ofB underlying74 (by kernel_rfl)
theorem zKy:ZeT prog 99 3 (Rp.int .i64) 8 (0:Int):=ZeT.ofB underlying99 (by kernel_rfl)
theorem znz:ZeT prog 148 154 zi 56 ((⟨(⟨0,0,0,0,0⟩:zu),0,false⟩:zh):zh):=ZeT.ofB underlying148 (by kernel_rfl)
theorem zBO:ZeT prog 213 25 (Rp.list Rp.str) 24 ([]:(List Str)):=ZeT.ofB underlying213 (by kernel_rfl)
theorem zFs:ZeT prog 256 48 (Rp.list (Rp.int .u64)) 24 ([]:(List Int)):=ZeT.ofB underlying256 (by kernel_rfl)
theorem zFt:ZeT prog 258 49 (Rp.list zg) 24 ([]:(List zb)):=ZeT.ofB underlying258 (by kernel_rfl)
theorem zjC:zi.Plain:=fun x=>by simp [zi,LV.plain]
theorem zOc:StT prog 47 [(0,1),(1,1),(2,1),(3,1),(4,1),(5,1)] [.str [],.int .i64 0,.int .i64 0,.bool false,.bool false,.int .i64 0]:=StT.ofB underlying47 (by kernel_rfl)
theorem zBx:StT prog 126 [(0,1),(1,1),(2,1)] [.int .i64 0,.int .i64 0,.int .i64 0]:=StT.ofB underlying126 (by kernel_rfl)
theorem zuC:StT prog 146 [(0,1),(1,1),(2,1)] [.int .i64 0,.int .i64 0,.int .u8 0]:=StT.ofB underlying146 (by kernel_rfl)
theorem zBy:StT prog 152 [(0,1),(1,1),(2,1),(3,1),(4,1)] [.int .i64 0,.int .i64 0,.int .i64 0,.int .i64 0,.int .i64 0]:=StT.ofB underlying152 (by kernel_rfl)
theorem zyd:StT prog 154 [(0,5),(5,1),(6,1)] [.int .i64 0,.int .i64 0,.int .i64 0,.int .i64 0,.int .i64 0,.int .i64 0,.bool false]:=StT.ofB underlying154 (by kernel_rfl)
theorem zBz:StT prog 224 [(0,1),(1,1)] [.int .i64 0,.int .i64 0]:=StT.ofB underlying224 (by kernel_rfl)
theorem zhL:StT prog 230 [(0,1),(1,1)] [.str [],.int .i64 0]:=StT.ofB underlying230 (by kernel_rfl)
theorem zKc:StT prog 233 [(0,1),(1,1)] [.int .i64 0,.str []]:=StT.ofB underlying233 (by kernel_rfl)
theorem zNk:StT prog 235 [(0,1),(1,1)] [.int .i64 0,.int .i64 0]:=StT.ofB underlying235 (by kernel_rfl)
theorem zNl:StT prog 243 [(0,1),(1,1)] [.int .i64 0,.int .i64 0]:=StT.ofB underlying243 (by kernel_rfl)
theorem zFe:StT prog 245 [(0,1),(1,1),(2,1)] [.int .i64 0,.bool false,.int .u8 0]:=StT.ofB underlying245 (by kernel_rfl)
theorem zNm:StT prog 275 [(0,1),(1,1),(2,1)] [.int .i64 0,.int .i64 0,.int .i64 0]:=StT.ofB underlying275 (by kernel_rfl)
theorem zyb:StA prog 27 [(0,1),(1,1)] [kN,kN]:=StA.ofB underlying27 (by kernel_rfl)
theorem zDt:StA prog 51 [(0,1),(1,1),(2,1),(3,1)] [kI 0,kN,kN,kN]:=StA.ofB underlying51 (by kernel_rfl)
theorem zOb:StA prog 71 [(0,1),(1,1)] [kS [],kN]:=StA.ofB underlying71 (by kernel_rfl)
theorem zNg:StA prog 187 [(0,1),(1,1),(2,1),(3,1)] [kI 0,kN,.lf (.val (.map none)),.lf (.val (.map none))]:=StA.ofB underlying187 (by kernel_rfl)
theorem zNh:StA prog 193 [(0,1),(1,1),(2,1)] [kN,kN,.lf (.val (.map none))]:=StA.ofB underlying193 (by kernel_rfl)
theorem zBg:MapT prog 151 3 148 (Rp.int .i64) (Rp.list zi) ([]:(List zh)):=MapT.ofB underlying151 (zxh underlying3) (by kernel_rfl)
theorem ztc:MapT prog 165 3 51 (Rp.int .i64) zd ((⟨0,[],[],[]⟩:za):za):=MapT.ofB underlying165 (zxh underlying3) (by kernel_rfl)
theorem zwe:MapT prog 184 233 4 zU Rp.bool (false:Bool):=MapT.ofB underlying184 (zqR underlying233 (by kernel_rfl) rfl (fun _=>by kernel_rfl) (fun a b=>by cases a;cases b;simp [zU,eqL,leq,Bool.decide_and,Bool.beq_eq_decide_eq])) (by kernel_rfl)
theorem zGd:MapT prog 185 235 4 zV Rp.bool (false:Bool):=MapT.ofB underlying185 (zqR underlying235 (by kernel_rfl) rfl (fun _=>by kernel_rfl) (fun a b=>by cases a;cases b;simp [zV,eqL,leq,Bool.decide_and,Bool.beq_eq_decide_eq])) (by kernel_rfl)
theorem zGe:MapT prog 191 275 154 zn zi ((⟨(⟨0,0,0,0,0⟩:zu),0,false⟩:zh):zh):=MapT.ofB underlying191 (zqR underlying275 (by kernel_rfl) rfl (fun _=>by kernel_rfl) (fun a b=>by cases a;cases b;simp [zn,eqL,leq,Bool.decide_and,Bool.beq_eq_decide_eq])) (by kernel_rfl)
theorem zGf:MapT prog 195 243 245 zau zaz ((⟨0,false,0⟩:zaf):zaf):=MapT.ofB underlying195 (zqR underlying243 (by kernel_rfl) rfl (fun _=>by kernel_rfl) (fun a b=>by cases a;cases b;simp [zau,eqL,leq,Bool.decide_and,Bool.beq_eq_decide_eq])) (by kernel_rfl)
theorem zfE:MapT prog 228 3 230 (Rp.int .i64) zaY ((⟨[],0⟩:zv):zv):=MapT.ofB underlying228 (zxh underlying3) (by kernel_rfl)
abbrev zcB (l3:Nat) (C3:List Nat) (x:za):List AV:=[kI x.Number,kN,kN,.own zg 27 l3 C3 x.Subs]
abbrev zA (l1:Nat) (C1:List Nat) (l2:Nat) (C2:List Nat) (l3:Nat) (C3:List Nat) (x:za):List AV:=[kI x.Number,.own (Rp.int .u64) 72 l1 C1 x.Words,.own Rp.str 9 l2 C2 x.Texts,.own zg 27 l3 C3 x.Subs]
abbrev zaQ (C1:List Nat) (C2:List Nat) (C3:List Nat) (x:za):List AV:=[kI x.Number,.sl (Rp.int .u64) C1 x.Words,.sl Rp.str C2 x.Texts,.sl zg C3 x.Subs]
abbrev zr (l1:Nat) (C1:List Nat) (l2:Nat) (C2:List Nat) (x:zb):List AV:=[.own zd 51 l1 C1 x.Values,.own Rp.str 9 l2 C2 x.Unknown]
abbrev zo (l1:Nat) (C1:List Nat) (x:zk):List AV:=[.own (Rp.list Rp.byte) 35 l1 C1 x.pieces,kI x.size]
abbrev zps (x:zbe):List AV:=[kI x.Message,kI x.Field,kI x.What]
abbrev zag (C:List Nat) (x:ze):List AV:=[kS x.Name,.sl zf C x.Fields]
abbrev zbi (x:zc):List AV:=[kS x.Name,kI x.Number,kI x.Kind,kB x.Repeated,kB x.Packed,kI x.Of]
abbrev zmN (x:zu):List AV:=[kI x.Number,kI x.Wire,kI x.From,kI x.At,kI x.To]
abbrev zt (C:List Nat) (x:za):List AV:=[kI x.Number,.sl (Rp.int .u64) C x.Words,.sl Rp.str C x.Texts,.sl zg C x.Subs]
theorem zaV (C:List Nat) (x:za):AV.le (.ag (zt C x)) (.rc zd C x):=fun _ _ _ ⟨vs,hv,hL,_⟩=>⟨vs,hv,zic (by rw [zG]<;>rfl) hL (fun c hc=>by simpa [zt,AV.colsL,AV.cols] using hc)⟩
abbrev zcV (x:zh):List AV:=[kI x.Record.Number,kI x.Record.Wire,kI x.Record.From,kI x.Record.At,kI x.Record.To,kI x.Field,kB x.Run]
abbrev zak (C:List Nat) (x:zb):List AV:=[.sl zd C x.Values,.sl Rp.str C x.Unknown]
theorem zL (C:List Nat) (x:zb):AV.le (.ag (zak C x)) (.rc zg C x):=fun _ _ _ ⟨vs,hv,hL,_⟩=>⟨vs,hv,zic (by rw [zaq]<;>rfl) hL (fun c hc=>by simpa [zak,AV.colsL,AV.cols] using hc)⟩
abbrev zkd (x:zE):List AV:=[kI x.depth,kI x.place,k8 x.e]
abbrev zwL (x:zaf):List AV:=[kI x.field,kB x.run,k8 x.e]
theorem zbB (C:List Nat) (x:za):zgc (zt C x)=some (zd.lv x):=by rw [zG]<;>rfl
theorem zah (C:List Nat) (x:zb):zgc (zak C x)=some (zg.lv x):=by rw [zaq]<;>rfl
abbrev zMv:=(⟨isAgg126,sizeOf126⟩:AggT prog 126 _)
abbrev zDY:=(⟨isAgg146,sizeOf146⟩:AggT prog 146 _)
abbrev zMw:=(⟨isAgg152,sizeOf152⟩:AggT prog 152 _)
abbrev zpD:=(⟨isAgg154,sizeOf154⟩:AggT prog 154 _)
abbrev zMx:=(⟨isAgg224,sizeOf224⟩:AggT prog 224 _)
abbrev zMy:=(⟨isAgg245,sizeOf245⟩:AggT prog 245 _)
abbrev zkH:=(⟨isAgg27,sizeOf27⟩:AggT prog 27 _)
abbrev zpE:=(⟨isAgg47,sizeOf47⟩:AggT prog 47 _)
abbrev ziS:=(⟨isAgg51,sizeOf51⟩:AggT prog 51 _)
abbrev zzh:=(⟨isAgg71,sizeOf71⟩:AggT prog 71 _)
end Go.Proofs.YtkgohoggipdokaaGreat
