/-
  Facts on the types of the program. No condition.
-/
import Derived.KernelRfl
import Derived.Test.YtnckiilakdkklaaGreatx1K2
import Derived.Test.YtnckiilakdkklaaGreatProg
import Derived.Test.YtnckiilakdkklaaGreatx1S1
namespace Go.Proofs.YtnckiilakdkklaaGreat
open Tryz
open Go Go.RowKit
set_option linter.unusedVariables false
abbrev wh:=Rp.int .i64
abbrev wi:=Rp.int .u64
abbrev wj:=FnOk prog
abbrev wk:=@AV.le_refl
theorem zbo:prog.follows .mixedOrders=true:=by kernel_rfl
theorem zfZ:ZeT prog 23 65 zi 40 ((⟨[],[]⟩:ze):ze):=ZeT.ofB underlying23 (by kernel_rfl)
theorem zcr:ZeT prog 24 5 Rp.byte 1 (0:UInt8):=ZeT.ofB underlying24 (by kernel_rfl)
theorem zGA:ZeT prog 32 97 zh 80 ((⟨0,[],[],[]⟩:za):za):=ZeT.ofB underlying32 (by kernel_rfl)
theorem zhI:ZeT prog 33 9 Rp.str 16 ([]:Str):=ZeT.ofB underlying33 (by kernel_rfl)
theorem zim:ZeT prog 38 74 zh 80 ((⟨0,[],[],[]⟩:za):za):=ZeT.ofB underlying38 (by kernel_rfl)
theorem zvK:ZeT prog 47 24 (Rp.list Rp.byte) 24 ([]:(List UInt8)):=ZeT.ofB underlying47 (by kernel_rfl)
theorem zin:ZeT prog 57 3 (Rp.int .i64) 8 (0:Int):=ZeT.ofB underlying57 (by kernel_rfl)
theorem zif:ZeT prog 63 62 zf 48 ((⟨[],0,0,false,false,0⟩:zd):zd):=ZeT.ofB underlying63 (by kernel_rfl)
theorem zmq:ZeT prog 71 89 (Rp.int .u64) 8 (0:Int):=ZeT.ofB underlying71 (by kernel_rfl)
theorem zmr:ZeT prog 72 40 zn 48 ((⟨[],[]⟩:zb):zb):=ZeT.ofB underlying72 (by kernel_rfl)
theorem zrD:ZeT prog 78 85 zan 56 ((⟨(⟨0,0,0,0,0⟩:zj),0,false⟩:zD):zD):=ZeT.ofB underlying78 (by kernel_rfl)
theorem zGB:ZeT prog 95 35 zn 48 ((⟨[],[]⟩:zb):zb):=ZeT.ofB underlying95 (by kernel_rfl)
theorem zjs:ZeT prog 102 106 zg 56 ((⟨(⟨0,0,0,0,0⟩:zj),0,false⟩:zc):zc):=ZeT.ofB underlying102 (by kernel_rfl)
theorem zrb:zan.Plain:=fun x=>by simp [zan,LV.plain]
theorem zhV:zg.Plain:=fun x=>by simp [zg,LV.plain]
theorem zJW:StT prog 62 [(0,1),(1,1),(2,1),(3,1),(4,1),(5,1)] [.str [],.int .i64 0,.int .i64 0,.bool false,.bool false,.int .i64 0]:=StT.ofB underlying62 (by kernel_rfl)
theorem zvp:StT prog 83 [(0,1),(1,1),(2,1),(3,1),(4,1)] [.int .i64 0,.int .i64 0,.int .i64 0,.int .i64 0,.int .i64 0]:=StT.ofB underlying83 (by kernel_rfl)
theorem zAi:StT prog 85 [(0,5),(5,1),(6,1)] [.int .i64 0,.int .i64 0,.int .i64 0,.int .i64 0,.int .i64 0,.int .i64 0,.bool false]:=StT.ofB underlying85 (by kernel_rfl)
theorem zyz:StT prog 104 [(0,1),(1,1),(2,1),(3,1),(4,1)] [.int .i64 0,.int .i64 0,.int .i64 0,.int .i64 0,.int .i64 0]:=StT.ofB underlying104 (by kernel_rfl)
theorem zvo:StT prog 106 [(0,5),(5,1),(6,1)] [.int .i64 0,.int .i64 0,.int .i64 0,.int .i64 0,.int .i64 0,.int .i64 0,.bool false]:=StT.ofB underlying106 (by kernel_rfl)
theorem zsn:StT prog 114 [(0,1),(1,1),(2,1)] [.int .i64 0,.int .i64 0,.int .u8 0]:=StT.ofB underlying114 (by kernel_rfl)
theorem zyA:StT prog 150 [(0,1),(1,1),(2,1)] [.int .i64 0,.int .i64 0,.int .i64 0]:=StT.ofB underlying150 (by kernel_rfl)
theorem zJf:StT prog 162 [(0,1),(1,1)] [.int .i64 0,.int .i64 0]:=StT.ofB underlying162 (by kernel_rfl)
theorem zBJ:StT prog 164 [(0,1),(1,1),(2,1)] [.int .i64 0,.bool false,.int .u8 0]:=StT.ofB underlying164 (by kernel_rfl)
theorem zJg:StT prog 183 [(0,1),(1,1),(2,1)] [.int .i64 0,.int .i64 0,.int .i64 0]:=StT.ofB underlying183 (by kernel_rfl)
theorem zBK:StT prog 188 [(0,1),(1,1)] [.int .i64 0,.int .i64 0]:=StT.ofB underlying188 (by kernel_rfl)
theorem zgD:StT prog 213 [(0,1),(1,1)] [.str [],.int .i64 0]:=StT.ofB underlying213 (by kernel_rfl)
theorem zGb:StT prog 216 [(0,1),(1,1)] [.int .i64 0,.str []]:=StT.ofB underlying216 (by kernel_rfl)
theorem zJh:StT prog 218 [(0,1),(1,1)] [.int .i64 0,.int .i64 0]:=StT.ofB underlying218 (by kernel_rfl)
theorem zJT:StA prog 35 [(0,1),(1,1)] [kN,kN]:=StA.ofB underlying35 (by kernel_rfl)
theorem zIl:StA prog 40 [(0,1),(1,1)] [kN,kN]:=StA.ofB underlying40 (by kernel_rfl)
theorem zJU:StA prog 65 [(0,1),(1,1)] [kS [],kN]:=StA.ofB underlying65 (by kernel_rfl)
theorem zCV:StA prog 74 [(0,1),(1,1),(2,1),(3,1)] [kI 0,kN,kN,kN]:=StA.ofB underlying74 (by kernel_rfl)
theorem zJV:StA prog 97 [(0,1),(1,1),(2,1),(3,1)] [kI 0,kN,kN,kN]:=StA.ofB underlying97 (by kernel_rfl)
theorem zJa:StA prog 138 [(0,1),(1,1),(2,1)] [kN,kN,.lf (.val (.map none))]:=StA.ofB underlying138 (by kernel_rfl)
theorem zJb:StA prog 177 [(0,1),(1,1),(2,1),(3,1)] [kI 0,kN,.lf (.val (.map none)),.lf (.val (.map none))]:=StA.ofB underlying177 (by kernel_rfl)
theorem zCB:MapT prog 100 3 4 (Rp.int .i64) Rp.bool (false:Bool):=MapT.ofB underlying100 (zuw underlying3) (by kernel_rfl)
theorem zyb:MapT prog 118 3 102 (Rp.int .i64) (Rp.list zg) ([]:(List zc)):=MapT.ofB underlying118 (zuw underlying3) (by kernel_rfl)
theorem zCC:MapT prog 136 183 106 zm zg ((⟨(⟨0,0,0,0,0⟩:zj),0,false⟩:zc):zc):=MapT.ofB underlying136 (zoT underlying183 (by kernel_rfl) rfl (fun _=>by kernel_rfl) (fun a b=>by cases a;cases b;simp [zm,eqL,leq,Bool.decide_and,Bool.beq_eq_decide_eq])) (by kernel_rfl)
theorem zCD:MapT prog 140 162 164 zW zZ ((⟨0,false,0⟩:zP):zP):=MapT.ofB underlying140 (zoT underlying162 (by kernel_rfl) rfl (fun _=>by kernel_rfl) (fun a b=>by cases a;cases b;simp [zW,eqL,leq,Bool.decide_and,Bool.beq_eq_decide_eq])) (by kernel_rfl)
theorem ztA:MapT prog 174 216 4 zB Rp.bool (false:Bool):=MapT.ofB underlying174 (zoT underlying216 (by kernel_rfl) rfl (fun _=>by kernel_rfl) (fun a b=>by cases a;cases b;simp [zB,eqL,leq,Bool.decide_and,Bool.beq_eq_decide_eq])) (by kernel_rfl)
theorem zCE:MapT prog 175 218 4 zC Rp.bool (false:Bool):=MapT.ofB underlying175 (zoT underlying218 (by kernel_rfl) rfl (fun _=>by kernel_rfl) (fun a b=>by cases a;cases b;simp [zC,eqL,leq,Bool.decide_and,Bool.beq_eq_decide_eq])) (by kernel_rfl)
theorem zex:MapT prog 211 3 213 (Rp.int .i64) zam ((⟨[],0⟩:zq):zq):=MapT.ofB underlying211 (zuw underlying3) (by kernel_rfl)
abbrev zR (l1:Nat) (C1:List Nat) (l2:Nat) (C2:List Nat) (l3:Nat) (C3:List Nat) (x:za):List AV:=[kI x.Number,.own (Rp.int .u64) 89 l1 C1 x.Words,.own Rp.str 9 l2 C2 x.Texts,.own zn 35 l3 C3 x.Subs]
abbrev zit (C1:List Nat) (C2:List Nat) (x:za):List AV:=[kI x.Number,.sl (Rp.int .u64) C1 x.Words,.sl Rp.str C2 x.Texts,kN]
abbrev zap (C1:List Nat) (C2:List Nat) (l3:Nat) (C3:List Nat) (x:za):List AV:=[kI x.Number,.sl (Rp.int .u64) C1 x.Words,.sl Rp.str C2 x.Texts,.own zn 40 l3 C3 x.Subs]
abbrev zG (l1:Nat) (C1:List Nat) (l2:Nat) (C2:List Nat) (x:zb):List AV:=[.own zh 74 l1 C1 x.Values,.own Rp.str 9 l2 C2 x.Unknown]
abbrev zY (l1:Nat) (C1:List Nat) (l2:Nat) (C2:List Nat) (x:zb):List AV:=[.own zh 97 l1 C1 x.Values,.own Rp.str 9 l2 C2 x.Unknown]
abbrev zbC (l1:Nat) (C1:List Nat) (C2:List Nat) (x:zb):List AV:=[.own zh 74 l1 C1 x.Values,.sl Rp.str C2 x.Unknown]
abbrev zak (C1:List Nat) (l2:Nat) (C2:List Nat) (x:zb):List AV:=[.sl zh C1 x.Values,.own Rp.str 9 l2 C2 x.Unknown]
abbrev znl (x:zaq):List AV:=[kI x.Message,kI x.Field,kI x.What]
abbrev zK (C:List Nat) (x:ze):List AV:=[kS x.Name,.sl zf C x.Fields]
abbrev zab (x:zd):List AV:=[kS x.Name,kI x.Number,kI x.Kind,kB x.Repeated,kB x.Packed,kI x.Of]
abbrev zgU (x:zj):List AV:=[kI x.Number,kI x.Wire,kI x.From,kI x.At,kI x.To]
abbrev zal (C:List Nat) (x:za):List AV:=[kI x.Number,.sl (Rp.int .u64) C x.Words,.sl Rp.str C x.Texts,.sl zn C x.Subs]
theorem zej (C:List Nat) (x:za):AV.le (.ag (zal C x)) (.rc zh C x):=fun _ _ _ ⟨vs,hv,hL,_⟩=>⟨vs,hv,zhE (by rw [zI]<;>rfl) hL (fun c hc=>by simpa [zal,AV.colsL,AV.cols] using hc)⟩
abbrev ztZ (x:zD):List AV:=[kI x.R.Number,kI x.R.Wire,kI x.R.From,kI x.R.At,kI x.R.To,kI x.Field,kB x.Run]
abbrev zcb (x:zc):List AV:=[kI x.Record.Number,kI x.Record.Wire,kI x.Record.From,kI x.Record.At,kI x.Record.To,kI x.Field,kB x.Run]
abbrev zaO (C:List Nat) (x:zb):List AV:=[.sl zh C x.Values,.sl Rp.str C x.Unknown]
theorem zqz (C:List Nat) (x:zb):AV.le (.ag (zaO C x)) (.rc zn C x):=fun _ _ _ ⟨vs,hv,hL,_⟩=>⟨vs,hv,zhE (by rw [zT]<;>rfl) hL (fun c hc=>by simpa [zaO,AV.colsL,AV.cols] using hc)⟩
abbrev ziu (x:zu):List AV:=[kI x.depth,kI x.place,k8 x.e]
abbrev zua (x:zP):List AV:=[kI x.field,kB x.run,k8 x.e]
theorem zbc (C:List Nat) (x:za):zfj (zal C x)=some (zh.lv x):=by rw [zI]<;>rfl
theorem zcU (C:List Nat) (x:zb):zfj (zaO C x)=some (zn.lv x):=by rw [zT]<;>rfl
abbrev zIq:=(⟨isAgg104,sizeOf104⟩:AggT prog 104 _)
abbrev zli:=(⟨isAgg106,sizeOf106⟩:AggT prog 106 _)
abbrev zAD:=(⟨isAgg114,sizeOf114⟩:AggT prog 114 _)
abbrev zIr:=(⟨isAgg150,sizeOf150⟩:AggT prog 150 _)
abbrev zIs:=(⟨isAgg164,sizeOf164⟩:AggT prog 164 _)
abbrev zIt:=(⟨isAgg188,sizeOf188⟩:AggT prog 188 _)
abbrev zBV:=(⟨isAgg35,sizeOf35⟩:AggT prog 35 _)
abbrev znH:=(⟨isAgg40,sizeOf40⟩:AggT prog 40 _)
abbrev znI:=(⟨isAgg62,sizeOf62⟩:AggT prog 62 _)
abbrev zsC:=(⟨isAgg65,sizeOf65⟩:AggT prog 65 _)
abbrev zwm:=(⟨isAgg74,sizeOf74⟩:AggT prog 74 _)
abbrev zJv:=(⟨isAgg83,sizeOf83⟩:AggT prog 83 _)
abbrev zJw:=(⟨isAgg85,sizeOf85⟩:AggT prog 85 _)
abbrev zHP:=(⟨isAgg97,sizeOf97⟩:AggT prog 97 _)
end Go.Proofs.YtnckiilakdkklaaGreat
