/-
  Facts on the types of the program. No condition.
-/
import Derived.KernelRfl
import Derived.Test.YtkgohoggipdokaaGreatx2K2
import Derived.Test.YtkgohoggipdokaaGreatProg
import Derived.Test.YtkgohoggipdokaaGreatx2K3
import Derived.Test.YtkgohoggipdokaaGreatx2S1
namespace Go.Proofs.YtkgohoggipdokaaGreat
open Tryz
open Go Go.RowKit
set_option linter.unusedVariables false
abbrev vU:=Rp.int .i64
abbrev vV:=Rp.int .u64
abbrev vW:=FnOk prog
abbrev vX:=@AV.le_refl
theorem zeY:prog.follows .mixedOrders=true:=by kernel_rfl
theorem zoj:ZeT prog 23 71 zi 40 ((⟨[],[]⟩:zd):zd):=ZeT.ofB underlying23 (by kernel_rfl)
theorem zrk:ZeT prog 24 51 zh 80 ((⟨0,[],[],[]⟩:zb):zb):=ZeT.ofB underlying24 (by kernel_rfl)
theorem zmQ:ZeT prog 25 9 Rp.str 16 ([]:Str):=ZeT.ofB underlying25 (by kernel_rfl)
theorem zdK:ZeT prog 35 5 Rp.byte 1 (0:UInt8):=ZeT.ofB underlying35 (by kernel_rfl)
theorem zsK:ZeT prog 48 72 (Rp.int .u64) 8 (0:Int):=ZeT.ofB underlying48 (by kernel_rfl)
theorem zsL:ZeT prog 49 27 zj 48 ((⟨[],[]⟩:zc):zc):=ZeT.ofB underlying49 (by kernel_rfl)
theorem zpl:ZeT prog 69 47 zf 48 ((⟨[],0,0,false,false,0⟩:za):za):=ZeT.ofB underlying69 (by kernel_rfl)
theorem zmg:ZeT prog 74 35 (Rp.list Rp.byte) 24 ([]:(List UInt8)):=ZeT.ofB underlying74 (by kernel_rfl)
theorem zIY:ZeT prog 99 3 (Rp.int .i64) 8 (0:Int):=ZeT.ofB underlying99 (by kernel_rfl)
theorem zlu:ZeT prog 148 154 zg 56 ((⟨(⟨0,0,0,0,0⟩:zq),0,false⟩:ze):ze):=ZeT.ofB underlying148 (by kernel_rfl)
theorem zhG:zg.Plain:=fun x=>by simp [zg,LV.plain]
theorem zKH:StT prog 47 [(0,1),(1,1),(2,1),(3,1),(4,1),(5,1)] [.str [],.int .i64 0,.int .i64 0,.bool false,.bool false,.int .i64 0]:=StT.ofB underlying47 (by kernel_rfl)
theorem zyv:StT prog 126 [(0,1),(1,1),(2,1)] [.int .i64 0,.int .i64 0,.int .i64 0]:=StT.ofB underlying126 (by kernel_rfl)
theorem zrP:StT prog 146 [(0,1),(1,1),(2,1)] [.int .i64 0,.int .i64 0,.int .u8 0]:=StT.ofB underlying146 (by kernel_rfl)
theorem zyw:StT prog 152 [(0,1),(1,1),(2,1),(3,1),(4,1)] [.int .i64 0,.int .i64 0,.int .i64 0,.int .i64 0,.int .i64 0]:=StT.ofB underlying152 (by kernel_rfl)
theorem zve:StT prog 154 [(0,5),(5,1),(6,1)] [.int .i64 0,.int .i64 0,.int .i64 0,.int .i64 0,.int .i64 0,.int .i64 0,.bool false]:=StT.ofB underlying154 (by kernel_rfl)
theorem zyx:StT prog 224 [(0,1),(1,1)] [.int .i64 0,.int .i64 0]:=StT.ofB underlying224 (by kernel_rfl)
theorem zgi:StT prog 230 [(0,1),(1,1)] [.str [],.int .i64 0]:=StT.ofB underlying230 (by kernel_rfl)
theorem zGD:StT prog 233 [(0,1),(1,1)] [.int .i64 0,.str []]:=StT.ofB underlying233 (by kernel_rfl)
theorem zJU:StT prog 235 [(0,1),(1,1)] [.int .i64 0,.int .i64 0]:=StT.ofB underlying235 (by kernel_rfl)
theorem zJV:StT prog 243 [(0,1),(1,1)] [.int .i64 0,.int .i64 0]:=StT.ofB underlying243 (by kernel_rfl)
theorem zBN:StT prog 245 [(0,1),(1,1),(2,1)] [.int .i64 0,.bool false,.int .u8 0]:=StT.ofB underlying245 (by kernel_rfl)
theorem zJW:StT prog 275 [(0,1),(1,1),(2,1)] [.int .i64 0,.int .i64 0,.int .i64 0]:=StT.ofB underlying275 (by kernel_rfl)
theorem zIT:StA prog 27 [(0,1),(1,1)] [kN,kN]:=StA.ofB underlying27 (by kernel_rfl)
theorem zIU:StA prog 51 [(0,1),(1,1),(2,1),(3,1)] [kI 0,kN,kN,kN]:=StA.ofB underlying51 (by kernel_rfl)
theorem zKG:StA prog 71 [(0,1),(1,1)] [kS [],kN]:=StA.ofB underlying71 (by kernel_rfl)
theorem zJP:StA prog 187 [(0,1),(1,1),(2,1),(3,1)] [kI 0,kN,.lf (.val (.map none)),.lf (.val (.map none))]:=StA.ofB underlying187 (by kernel_rfl)
theorem zJQ:StA prog 193 [(0,1),(1,1),(2,1)] [kN,kN,.lf (.val (.map none))]:=StA.ofB underlying193 (by kernel_rfl)
theorem zyg:MapT prog 151 3 148 (Rp.int .i64) (Rp.list zg) ([]:(List ze)):=MapT.ofB underlying151 (zzA underlying3) (by kernel_rfl)
theorem zto:MapT prog 184 233 4 zM Rp.bool (false:Bool):=MapT.ofB underlying184 (zou underlying233 (by kernel_rfl) rfl (fun _=>by kernel_rfl) (fun a b=>by cases a;cases b;simp [zM,eqL,leq,Bool.decide_and,Bool.beq_eq_decide_eq])) (by kernel_rfl)
theorem zCP:MapT prog 185 235 4 zN Rp.bool (false:Bool):=MapT.ofB underlying185 (zou underlying235 (by kernel_rfl) rfl (fun _=>by kernel_rfl) (fun a b=>by cases a;cases b;simp [zN,eqL,leq,Bool.decide_and,Bool.beq_eq_decide_eq])) (by kernel_rfl)
theorem zCQ:MapT prog 191 275 154 zn zg ((⟨(⟨0,0,0,0,0⟩:zq),0,false⟩:ze):ze):=MapT.ofB underlying191 (zou underlying275 (by kernel_rfl) rfl (fun _=>by kernel_rfl) (fun a b=>by cases a;cases b;simp [zn,eqL,leq,Bool.decide_and,Bool.beq_eq_decide_eq])) (by kernel_rfl)
theorem zCR:MapT prog 195 243 245 zah zap ((⟨0,false,0⟩:zT):zT):=MapT.ofB underlying195 (zou underlying243 (by kernel_rfl) rfl (fun _=>by kernel_rfl) (fun a b=>by cases a;cases b;simp [zah,eqL,leq,Bool.decide_and,Bool.beq_eq_decide_eq])) (by kernel_rfl)
theorem zeq:MapT prog 228 3 230 (Rp.int .i64) zaK ((⟨[],0⟩:zr):zr):=MapT.ofB underlying228 (zzA underlying3) (by kernel_rfl)
abbrev zac (l1:Nat) (C1:List Nat) (l2:Nat) (C2:List Nat) (l3:Nat) (C3:List Nat) (x:zb):List AV:=[kI x.Number,.own (Rp.int .u64) 72 l1 C1 x.Words,.own Rp.str 9 l2 C2 x.Texts,.own zj 27 l3 C3 x.Subs]
abbrev zP (l1:Nat) (C1:List Nat) (l2:Nat) (C2:List Nat) (x:zc):List AV:=[.own zh 51 l1 C1 x.Values,.own Rp.str 9 l2 C2 x.Unknown]
abbrev zo (l1:Nat) (C1:List Nat) (x:zk):List AV:=[.own (Rp.list Rp.byte) 35 l1 C1 x.pieces,kI x.size]
abbrev zmS (x:zaP):List AV:=[kI x.Message,kI x.Field,kI x.What]
abbrev zV (C:List Nat) (x:zd):List AV:=[kS x.Name,.sl zf C x.Fields]
abbrev zbr (x:za):List AV:=[kS x.Name,kI x.Number,kI x.Kind,kB x.Repeated,kB x.Packed,kI x.Of]
abbrev zkO (x:zq):List AV:=[kI x.Number,kI x.Wire,kI x.From,kI x.At,kI x.To]
abbrev zW (C:List Nat) (x:zb):List AV:=[kI x.Number,.sl (Rp.int .u64) C x.Words,.sl Rp.str C x.Texts,.sl zj C x.Subs]
theorem zbZ (C:List Nat) (x:zb):AV.le (.ag (zW C x)) (.rc zh C x):=fun _ _ _ ⟨vs,hv,hL,_⟩=>⟨vs,hv,zgs (by rw [zad]<;>rfl) hL (fun c hc=>by simpa [zW,AV.colsL,AV.cols] using hc)⟩
abbrev zcj (x:ze):List AV:=[kI x.Record.Number,kI x.Record.Wire,kI x.Record.From,kI x.Record.At,kI x.Record.To,kI x.Field,kB x.Run]
abbrev zae (C:List Nat) (x:zc):List AV:=[.sl zh C x.Values,.sl Rp.str C x.Unknown]
theorem zaa (C:List Nat) (x:zc):AV.le (.ag (zae C x)) (.rc zj C x):=fun _ _ _ ⟨vs,hv,hL,_⟩=>⟨vs,hv,zgs (by rw [zak]<;>rfl) hL (fun c hc=>by simpa [zae,AV.colsL,AV.cols] using hc)⟩
abbrev zie (x:zz):List AV:=[kI x.depth,kI x.place,k8 x.e]
abbrev ztS (x:zT):List AV:=[kI x.field,kB x.run,k8 x.e]
theorem zcN (C:List Nat) (x:zb):zeO (zW C x)=some (zh.lv x):=by rw [zad]<;>rfl
theorem zaH (C:List Nat) (x:zc):zeO (zae C x)=some (zj.lv x):=by rw [zak]<;>rfl
abbrev zJc:=(⟨isAgg126,sizeOf126⟩:AggT prog 126 _)
abbrev zAR:=(⟨isAgg146,sizeOf146⟩:AggT prog 146 _)
abbrev zJd:=(⟨isAgg152,sizeOf152⟩:AggT prog 152 _)
abbrev zne:=(⟨isAgg154,sizeOf154⟩:AggT prog 154 _)
abbrev zJe:=(⟨isAgg224,sizeOf224⟩:AggT prog 224 _)
abbrev zJf:=(⟨isAgg245,sizeOf245⟩:AggT prog 245 _)
abbrev zjs:=(⟨isAgg27,sizeOf27⟩:AggT prog 27 _)
abbrev zpU:=(⟨isAgg47,sizeOf47⟩:AggT prog 47 _)
abbrev zpV:=(⟨isAgg51,sizeOf51⟩:AggT prog 51 _)
abbrev zyK:=(⟨isAgg71,sizeOf71⟩:AggT prog 71 _)
end Go.Proofs.YtkgohoggipdokaaGreat
