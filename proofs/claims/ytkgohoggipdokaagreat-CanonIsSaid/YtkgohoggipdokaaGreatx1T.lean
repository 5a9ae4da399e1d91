/-
  Facts on the types of the program. No condition.
-/
import Derived.KernelRfl
import Derived.Test.YtkgohoggipdokaaGreatx1K2
import Derived.Test.YtkgohoggipdokaaGreatProg
import Derived.Test.YtkgohoggipdokaaGreatx1K3
import Derived.Test.YtkgohoggipdokaaGreatx1S1
namespace Go.Proofs.YtkgohoggipdokaaGreat
open Tryz
open Go Go.RowKit
set_option linter.unusedVariables false
abbrev wY:=Rp.int .i64
abbrev wZ:=Rp.int .u64
abbrev w6:=FnOk prog
abbrev w7:=@AV.le_refl
theorem zdc:prog.follows .mixedOrders=true:=by kernel_rfl
theorem zhl:ZeT prog 23 71 zg 40 ((⟨[],[]⟩:zc):zc):=ZeT.ofB underlying23 (by kernel_rfl)
theorem zAY:ZeT prog 24 51 zj 80 ((⟨0,[],[],[]⟩:zb):zb):=ZeT.ofB underlying24 (by kernel_rfl)
theorem znG:ZeT prog 25 9 Rp.str 16 ([]:Str):=ZeT.ofB underlying25 (by kernel_rfl)
theorem zHw:ZeT prog 31 55 zj 80 ((⟨0,[],[],[]⟩:zb):zb):=ZeT.ofB underlying31 (by kernel_rfl)
theorem zbB:ZeT prog 35 5 Rp.byte 1 (0:UInt8):=ZeT.ofB underlying35 (by kernel_rfl)
theorem zHx:ZeT prog 42 33 zm 48 ((⟨[],[]⟩:zd):zd):=ZeT.ofB underlying42 (by kernel_rfl)
theorem zoU:ZeT prog 48 72 (Rp.int .u64) 8 (0:Int):=ZeT.ofB underlying48 (by kernel_rfl)
theorem zEE:ZeT prog 49 27 zm 48 ((⟨[],[]⟩:zd):zd):=ZeT.ofB underlying49 (by kernel_rfl)
theorem zjp:ZeT prog 69 47 ze 48 ((⟨[],0,0,false,false,0⟩:za):za):=ZeT.ofB underlying69 (by kernel_rfl)
theorem zoV:ZeT prog 74 35 (Rp.list Rp.byte) 24 ([]:(List UInt8)):=ZeT.ofB underlying74 (by kernel_rfl)
theorem zuC:ZeT prog 96 104 zaK 56 ((⟨(⟨0,0,0,0,0⟩:zn),0,false⟩:zM):zM):=ZeT.ofB underlying96 (by kernel_rfl)
theorem zkb:ZeT prog 99 3 (Rp.int .i64) 8 (0:Int):=ZeT.ofB underlying99 (by kernel_rfl)
theorem zog:ZeT prog 148 154 zh 56 ((⟨(⟨0,0,0,0,0⟩:zn),0,false⟩:zf):zf):=ZeT.ofB underlying148 (by kernel_rfl)
theorem ztT:zaK.Plain:=fun x=>by simp [zaK,LV.plain]
theorem zjJ:zh.Plain:=fun x=>by simp [zh,LV.plain]
theorem zOI:StT prog 47 [(0,1),(1,1),(2,1),(3,1),(4,1),(5,1)] [.str [],.int .i64 0,.int .i64 0,.bool false,.bool false,.int .i64 0]:=StT.ofB underlying47 (by kernel_rfl)
theorem ztg:StT prog 102 [(0,1),(1,1),(2,1),(3,1),(4,1)] [.int .i64 0,.int .i64 0,.int .i64 0,.int .i64 0,.int .i64 0]:=StT.ofB underlying102 (by kernel_rfl)
theorem zyI:StT prog 104 [(0,5),(5,1),(6,1)] [.int .i64 0,.int .i64 0,.int .i64 0,.int .i64 0,.int .i64 0,.int .i64 0,.bool false]:=StT.ofB underlying104 (by kernel_rfl)
theorem zCm:StT prog 126 [(0,1),(1,1),(2,1)] [.int .i64 0,.int .i64 0,.int .i64 0]:=StT.ofB underlying126 (by kernel_rfl)
theorem zvi:StT prog 146 [(0,1),(1,1),(2,1)] [.int .i64 0,.int .i64 0,.int .u8 0]:=StT.ofB underlying146 (by kernel_rfl)
theorem zCn:StT prog 152 [(0,1),(1,1),(2,1),(3,1),(4,1)] [.int .i64 0,.int .i64 0,.int .i64 0,.int .i64 0,.int .i64 0]:=StT.ofB underlying152 (by kernel_rfl)
theorem zyJ:StT prog 154 [(0,5),(5,1),(6,1)] [.int .i64 0,.int .i64 0,.int .i64 0,.int .i64 0,.int .i64 0,.int .i64 0,.bool false]:=StT.ofB underlying154 (by kernel_rfl)
theorem zCo:StT prog 224 [(0,1),(1,1)] [.int .i64 0,.int .i64 0]:=StT.ofB underlying224 (by kernel_rfl)
theorem zig:StT prog 230 [(0,1),(1,1)] [.str [],.int .i64 0]:=StT.ofB underlying230 (by kernel_rfl)
theorem zKD:StT prog 233 [(0,1),(1,1)] [.int .i64 0,.str []]:=StT.ofB underlying233 (by kernel_rfl)
theorem zNV:StT prog 235 [(0,1),(1,1)] [.int .i64 0,.int .i64 0]:=StT.ofB underlying235 (by kernel_rfl)
theorem zNW:StT prog 243 [(0,1),(1,1)] [.int .i64 0,.int .i64 0]:=StT.ofB underlying243 (by kernel_rfl)
theorem zFK:StT prog 245 [(0,1),(1,1),(2,1)] [.int .i64 0,.bool false,.int .u8 0]:=StT.ofB underlying245 (by kernel_rfl)
theorem zNX:StT prog 275 [(0,1),(1,1),(2,1)] [.int .i64 0,.int .i64 0,.int .i64 0]:=StT.ofB underlying275 (by kernel_rfl)
theorem zMU:StA prog 27 [(0,1),(1,1)] [kN,kN]:=StA.ofB underlying27 (by kernel_rfl)
theorem zMV:StA prog 51 [(0,1),(1,1),(2,1),(3,1)] [kI 0,kN,kN,kN]:=StA.ofB underlying51 (by kernel_rfl)
theorem zOG:StA prog 55 [(0,1),(1,1),(2,1),(3,1)] [kI 0,kN,kN,kN]:=StA.ofB underlying55 (by kernel_rfl)
theorem zOH:StA prog 71 [(0,1),(1,1)] [kS [],kN]:=StA.ofB underlying71 (by kernel_rfl)
theorem zNQ:StA prog 187 [(0,1),(1,1),(2,1),(3,1)] [kI 0,kN,.lf (.val (.map none)),.lf (.val (.map none))]:=StA.ofB underlying187 (by kernel_rfl)
theorem zNR:StA prog 193 [(0,1),(1,1),(2,1)] [kN,kN,.lf (.val (.map none))]:=StA.ofB underlying193 (by kernel_rfl)
theorem zOo:ByT prog 35 5:=ByT.ofB underlying35 (by kernel_rfl)
theorem zBN:MapT prog 151 3 148 (Rp.int .i64) (Rp.list zh) ([]:(List zf)):=MapT.ofB underlying151 (zDm underlying3) (by kernel_rfl)
theorem zwG:MapT prog 184 233 4 zO Rp.bool (false:Bool):=MapT.ofB underlying184 (zrL underlying233 (by kernel_rfl) rfl (fun _=>by kernel_rfl) (fun a b=>by cases a;cases b;simp [zO,eqL,leq,Bool.decide_and,Bool.beq_eq_decide_eq])) (by kernel_rfl)
theorem zGO:MapT prog 185 235 4 zP Rp.bool (false:Bool):=MapT.ofB underlying185 (zrL underlying235 (by kernel_rfl) rfl (fun _=>by kernel_rfl) (fun a b=>by cases a;cases b;simp [zP,eqL,leq,Bool.decide_and,Bool.beq_eq_decide_eq])) (by kernel_rfl)
theorem zGP:MapT prog 191 275 154 zo zh ((⟨(⟨0,0,0,0,0⟩:zn),0,false⟩:zf):zf):=MapT.ofB underlying191 (zrL underlying275 (by kernel_rfl) rfl (fun _=>by kernel_rfl) (fun a b=>by cases a;cases b;simp [zo,eqL,leq,Bool.decide_and,Bool.beq_eq_decide_eq])) (by kernel_rfl)
theorem zGQ:MapT prog 195 243 245 zak zan ((⟨0,false,0⟩:zX):zX):=MapT.ofB underlying195 (zrL underlying243 (by kernel_rfl) rfl (fun _=>by kernel_rfl) (fun a b=>by cases a;cases b;simp [zak,eqL,leq,Bool.decide_and,Bool.beq_eq_decide_eq])) (by kernel_rfl)
theorem zga:MapT prog 228 3 230 (Rp.int .i64) zaJ ((⟨[],0⟩:zt):zt):=MapT.ofB underlying228 (zDm underlying3) (by kernel_rfl)
abbrev zad (l1:Nat) (C1:List Nat) (l2:Nat) (C2:List Nat) (l3:Nat) (C3:List Nat) (x:zb):List AV:=[kI x.Number,.own (Rp.int .u64) 72 l1 C1 x.Words,.own Rp.str 9 l2 C2 x.Texts,.own zm 27 l3 C3 x.Subs]
abbrev zam (l1:Nat) (C1:List Nat) (l2:Nat) (C2:List Nat) (x:zd):List AV:=[.own zj 51 l1 C1 x.Values,.own Rp.str 9 l2 C2 x.Unknown]
abbrev zbF (l1:Nat) (C1:List Nat) (l2:Nat) (C2:List Nat) (x:zd):List AV:=[.own zj 55 l1 C1 x.Values,.own Rp.str 9 l2 C2 x.Unknown]
abbrev zp (l1:Nat) (C1:List Nat) (x:zi):List AV:=[.own (Rp.list Rp.byte) 35 l1 C1 x.pieces,kI x.size]
abbrev zpU (x:zaR):List AV:=[kI x.Message,kI x.Field,kI x.What]
abbrev zT (C:List Nat) (x:zc):List AV:=[kS x.Name,.sl ze C x.Fields]
abbrev zaE (x:za):List AV:=[kS x.Name,kI x.Number,kI x.Kind,kB x.Repeated,kB x.Packed,kI x.Of]
abbrev zix (x:zn):List AV:=[kI x.Number,kI x.Wire,kI x.From,kI x.At,kI x.To]
abbrev zai (C:List Nat) (x:zb):List AV:=[kI x.Number,.sl (Rp.int .u64) C x.Words,.sl Rp.str C x.Texts,.sl zm C x.Subs]
theorem zfJ (C:List Nat) (x:zb):AV.le (.ag (zai C x)) (.rc zj C x):=fun _ _ _ ⟨vs,hv,hL,_⟩=>⟨vs,hv,zit (by rw [zaa]<;>rfl) hL (fun c hc=>by simpa [zai,AV.colsL,AV.cols] using hc)⟩
abbrev zxn (x:zM):List AV:=[kI x.R.Number,kI x.R.Wire,kI x.R.From,kI x.R.At,kI x.R.To,kI x.Field,kB x.Run]
abbrev zcY (x:zf):List AV:=[kI x.Record.Number,kI x.Record.Wire,kI x.Record.From,kI x.Record.At,kI x.Record.To,kI x.Field,kB x.Run]
abbrev zcd (C:List Nat) (x:zd):List AV:=[.sl zj C x.Values,.sl Rp.str C x.Unknown]
theorem zbH (C:List Nat) (x:zd):AV.le (.ag (zcd C x)) (.rc zm C x):=fun _ _ _ ⟨vs,hv,hL,_⟩=>⟨vs,hv,zit (by rw [zbb]<;>rfl) hL (fun c hc=>by simpa [zcd,AV.colsL,AV.cols] using hc)⟩
abbrev zkh (x:zA):List AV:=[kI x.depth,kI x.place,k8 x.e]
abbrev zxo (x:zX):List AV:=[kI x.field,kB x.run,k8 x.e]
theorem zhY (C:List Nat) (x:zb):zgB (zai C x)=some (zj.lv x):=by rw [zaa]<;>rfl
theorem zcv (C:List Nat) (x:zd):zgB (zcd C x)=some (zm.lv x):=by rw [zbb]<;>rfl
abbrev zNb:=(⟨isAgg102,sizeOf102⟩:AggT prog 102 _)
abbrev zNc:=(⟨isAgg104,sizeOf104⟩:AggT prog 104 _)
abbrev zNd:=(⟨isAgg126,sizeOf126⟩:AggT prog 126 _)
abbrev zEH:=(⟨isAgg146,sizeOf146⟩:AggT prog 146 _)
abbrev zNe:=(⟨isAgg152,sizeOf152⟩:AggT prog 152 _)
abbrev zqn:=(⟨isAgg154,sizeOf154⟩:AggT prog 154 _)
abbrev zNf:=(⟨isAgg224,sizeOf224⟩:AggT prog 224 _)
abbrev zNg:=(⟨isAgg245,sizeOf245⟩:AggT prog 245 _)
abbrev zCz:=(⟨isAgg27,sizeOf27⟩:AggT prog 27 _)
abbrev zMz:=(⟨isAgg33,sizeOf33⟩:AggT prog 33 _)
abbrev znp:=(⟨isAgg47,sizeOf47⟩:AggT prog 47 _)
abbrev zzO:=(⟨isAgg51,sizeOf51⟩:AggT prog 51 _)
abbrev zOm:=(⟨isAgg55,sizeOf55⟩:AggT prog 55 _)
abbrev ztp:=(⟨isAgg71,sizeOf71⟩:AggT prog 71 _)
end Go.Proofs.YtkgohoggipdokaaGreat
