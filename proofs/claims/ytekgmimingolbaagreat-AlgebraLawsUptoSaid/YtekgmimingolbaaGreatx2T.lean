/-
  Facts on the types of the program. No condition.
-/
import Derived.KernelRfl
import Derived.Test.YtekgmimingolbaaGreatx2Str
import Derived.Test.YtekgmimingolbaaGreatx2K2
import Derived.Test.YtekgmimingolbaaGreatProg
import Derived.Test.YtekgmimingolbaaGreatx2K3
import Derived.Test.YtekgmimingolbaaGreatx2S1
namespace Go.Proofs.YtekgmimingolbaaGreat
open Go Go.RowKit
set_option linter.unusedVariables false
abbrev wu:=Rp.int .i64
abbrev wx:=Rp.list wu
abbrev wy:=Rp.list wx
abbrev wz:=Rp.int .u64
abbrev wA:=Rp.list wz
abbrev wB:=Rp.list Rp.str
abbrev wC:=@AV.le_refl
theorem zes:Tryz.prog.follows .mixedOrders=true:=by kernel_rfl
theorem zqX:ZeT Tryz.prog 23 82 zi 40 ((⟨[],[]⟩:zf):zf):=ZeT.ofB Tryz.underlying23 (by kernel_rfl)
theorem zgO:ZeT Tryz.prog 24 57 zc 80 ((⟨0,[],[],[]⟩:za):za):=ZeT.ofB Tryz.underlying24 (by kernel_rfl)
theorem zmz:ZeT Tryz.prog 25 9 Rp.str 16 ([]:Str):=ZeT.ofB Tryz.underlying25 (by kernel_rfl)
theorem zkj:ZeT Tryz.prog 45 53 (Rp.list (Rp.int .i64)) 24 ([]:(List Int)):=ZeT.ofB Tryz.underlying45 (by kernel_rfl)
theorem zlb:ZeT Tryz.prog 53 3 (Rp.int .i64) 8 (0:Int):=ZeT.ofB Tryz.underlying53 (by kernel_rfl)
theorem zpo:ZeT Tryz.prog 54 83 (Rp.int .u64) 8 (0:Int):=ZeT.ofB Tryz.underlying54 (by kernel_rfl)
theorem zgP:ZeT Tryz.prog 55 27 zd 48 ((⟨[],[]⟩:zb):zb):=ZeT.ofB Tryz.underlying55 (by kernel_rfl)
theorem zvV:ZeT Tryz.prog 80 65 zg 48 ((⟨[],0,0,false,false,0⟩:ze):ze):=ZeT.ofB Tryz.underlying80 (by kernel_rfl)
theorem zoB:ZeT Tryz.prog 114 5 Rp.byte 1 (0:UInt8):=ZeT.ofB Tryz.underlying114 (by kernel_rfl)
theorem zxe:ZeT Tryz.prog 171 25 (Rp.list Rp.str) 24 ([]:(List Str)):=ZeT.ofB Tryz.underlying171 (by kernel_rfl)
theorem zAf:ZeT Tryz.prog 209 54 (Rp.list (Rp.int .u64)) 24 ([]:(List Int)):=ZeT.ofB Tryz.underlying209 (by kernel_rfl)
theorem zAg:ZeT Tryz.prog 211 55 (Rp.list zd) 24 ([]:(List zb)):=ZeT.ofB Tryz.underlying211 (by kernel_rfl)
theorem zHG:StT Tryz.prog 65 [(0,1),(1,1),(2,1),(3,1),(4,1),(5,1)] [.str [],.int .i64 0,.int .i64 0,.bool false,.bool false,.int .i64 0]:=StT.ofB Tryz.underlying65 (by kernel_rfl)
theorem zwT:StT Tryz.prog 159 [(0,1),(1,1),(2,1)] [.int .i64 0,.int .i64 0,.int .i64 0]:=StT.ofB Tryz.underlying159 (by kernel_rfl)
theorem zwU:StT Tryz.prog 191 [(0,1),(1,1),(2,1),(3,1),(4,1)] [.int .i64 0,.int .i64 0,.int .i64 0,.int .i64 0,.int .i64 0]:=StT.ofB Tryz.underlying191 (by kernel_rfl)
theorem zzX:StT Tryz.prog 224 [(0,1),(1,1)] [.int .i64 0,.int .i64 0]:=StT.ofB Tryz.underlying224 (by kernel_rfl)
theorem zhq:StT Tryz.prog 242 [(0,1),(1,1)] [.str [],.int .i64 0]:=StT.ofB Tryz.underlying242 (by kernel_rfl)
theorem zED:StT Tryz.prog 245 [(0,1),(1,1)] [.int .i64 0,.str []]:=StT.ofB Tryz.underlying245 (by kernel_rfl)
theorem zGW:StT Tryz.prog 247 [(0,1),(1,1)] [.int .i64 0,.int .i64 0]:=StT.ofB Tryz.underlying247 (by kernel_rfl)
theorem zCH:ArT Tryz.prog 156 3 2 [.int .i64 0,.int .i64 0]:=ArT.ofB Tryz.underlying156 Tryz.sizeOf3 (by kernel_rfl)
theorem znk:StA Tryz.prog 27 [(0,1),(1,1)] [kN,kN]:=StA.ofB Tryz.underlying27 (by kernel_rfl)
theorem zGg:StA Tryz.prog 49 [(0,1)] [kN]:=StA.ofB Tryz.underlying49 (by kernel_rfl)
theorem zyy:StA Tryz.prog 57 [(0,1),(1,1),(2,1),(3,1)] [kI 0,kN,kN,kN]:=StA.ofB Tryz.underlying57 (by kernel_rfl)
theorem zHF:StA Tryz.prog 82 [(0,1),(1,1)] [kS [],kN]:=StA.ofB Tryz.underlying82 (by kernel_rfl)
theorem zGU:StA Tryz.prog 204 [(0,1),(1,1),(2,1),(3,1)] [kI 0,kN,.lf (.val (.map none)),.lf (.val (.map none))]:=StA.ofB Tryz.underlying204 (by kernel_rfl)
theorem zqy:MapT Tryz.prog 105 3 57 (Rp.int .i64) zc ((⟨0,[],[],[]⟩:za):za):=MapT.ofB Tryz.underlying105 (ztu Tryz.underlying3) (by kernel_rfl)
theorem zoK:MapT Tryz.prog 118 156 3 zaS (Rp.int .i64) (0:Int):=MapT.ofB Tryz.underlying118 (zDC (r:=zaS) Tryz.underlying156 Tryz.sizeOf3 (by kernel_rfl) (by kernel_rfl) rfl rfl (fun _=>by kernel_rfl) (fun a b=>by cases a;cases b;simp [zaS,eqL,leq,Bool.decide_and,Bool.beq_eq_decide_eq])) (by kernel_rfl)
theorem zwE:MapT Tryz.prog 179 3 45 (Rp.int .i64) (Rp.list (Rp.list (Rp.int .i64))) ([]:(List (List Int))):=MapT.ofB Tryz.underlying179 (ztu Tryz.underlying3) (by kernel_rfl)
theorem zsz:MapT Tryz.prog 201 245 4 zr Rp.bool (false:Bool):=MapT.ofB Tryz.underlying201 (zvp Tryz.underlying245 (by kernel_rfl) rfl (fun _=>by kernel_rfl) (fun a b=>by cases a;cases b;simp [zr,eqL,leq,Bool.decide_and,Bool.beq_eq_decide_eq])) (by kernel_rfl)
theorem zAT:MapT Tryz.prog 202 247 4 zp Rp.bool (false:Bool):=MapT.ofB Tryz.underlying202 (zvp Tryz.underlying247 (by kernel_rfl) rfl (fun _=>by kernel_rfl) (fun a b=>by cases a;cases b;simp [zp,eqL,leq,Bool.decide_and,Bool.beq_eq_decide_eq])) (by kernel_rfl)
theorem zfu:MapT Tryz.prog 240 3 242 (Rp.int .i64) zD ((⟨[],0⟩:zu):zu):=MapT.ofB Tryz.underlying240 (ztu Tryz.underlying3) (by kernel_rfl)
abbrev zbb (l3:Nat) (C3:List Nat) (x:za):List AV:=[kI x.Number,kN,kN,.own zd 27 l3 C3 x.Subs]
abbrev zje (C3:List Nat) (x:za):List AV:=[kI x.Number,kN,kN,.sl zd C3 x.Subs]
abbrev zap (l1:Nat) (C1:List Nat) (l2:Nat) (C2:List Nat) (l3:Nat) (C3:List Nat) (x:za):List AV:=[kI x.Number,.own (Rp.int .u64) 83 l1 C1 x.Words,.own Rp.str 9 l2 C2 x.Texts,.own zd 27 l3 C3 x.Subs]
abbrev zaz (C1:List Nat) (C2:List Nat) (C3:List Nat) (x:za):List AV:=[kI x.Number,.sl (Rp.int .u64) C1 x.Words,.sl Rp.str C2 x.Texts,.sl zd C3 x.Subs]
abbrev zar (l1:Nat) (C1:List Nat) (x:zb):List AV:=[.own zc 57 l1 C1 x.Values,kN]
abbrev zh (l1:Nat) (C1:List Nat) (l2:Nat) (C2:List Nat) (x:zb):List AV:=[.own zc 57 l1 C1 x.Values,.own Rp.str 9 l2 C2 x.Unknown]
abbrev zbE (l1:Nat) (C1:List Nat) (C2:List Nat) (x:zb):List AV:=[.own zc 57 l1 C1 x.Values,.sl Rp.str C2 x.Unknown]
abbrev znn (x:zbe):List AV:=[kI x.Message,kI x.Field,kI x.What]
abbrev zaT (C:List Nat) (x:zf):List AV:=[kS x.Name,.sl zg C x.Fields]
abbrev zaO (x:ze):List AV:=[kS x.Name,kI x.Number,kI x.Kind,kB x.Repeated,kB x.Packed,kI x.Of]
abbrev zsZ (x:zbx):List AV:=[kI x.Number,kI x.Wire]
abbrev zhK (x:zad):List AV:=[kI x.Number,kI x.Wire,kI x.From,kI x.At,kI x.To]
abbrev zk (C:List Nat) (x:za):List AV:=[kI x.Number,.sl (Rp.int .u64) C x.Words,.sl Rp.str C x.Texts,.sl zd C x.Subs]
theorem zan (C:List Nat) (x:za):AV.le (.ag (zk C x)) (.rc zc C x):=fun _ _ _ ⟨vs,hv,hL,_⟩=>⟨vs,hv,ziy (by rw [zv]<;>rfl) hL (fun c hc=>by simpa [zk,AV.colsL,AV.cols] using hc)⟩
abbrev zj (C:List Nat) (x:zb):List AV:=[.sl zc C x.Values,.sl Rp.str C x.Unknown]
theorem zx (C:List Nat) (x:zb):AV.le (.ag (zj C x)) (.rc zd C x):=fun _ _ _ ⟨vs,hv,hL,_⟩=>⟨vs,hv,ziy (by rw [zn]<;>rfl) hL (fun c hc=>by simpa [zj,AV.colsL,AV.cols] using hc)⟩
end Go.Proofs.YtekgmimingolbaaGreat
